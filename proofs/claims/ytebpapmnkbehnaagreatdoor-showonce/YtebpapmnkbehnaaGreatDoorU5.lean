/- What the law ShowOnce answers: true; no conditions but what the row lists. -/
import Derived.Test.YtebpapmnkbehnaaGreatDoorU4
set_option linter.unusedVariables false
set_option linter.unusedSimpArgs false
namespace Go.Proofs.YtebpapmnkbehnaaGreatDoor
open Go.RowKit Go.Joins Go.Sort Go.Lib

theorem PgN.short {p : Pg} (h : PgN p) : PgShort p := by
  obtain ⟨h1, h2, h3, h4, h5⟩ := h.len
  obtain ⟨-, -, hr⟩ := chk_open h.chk
  refine ⟨by omega, by omega, by omega, fun r hrr => ?_⟩
  have hn : RlN p.init.length r := ⟨hr r hrr, (h.nr r hrr).1, (h.nr r hrr).2.1, (h.nr r hrr).2.2⟩
  obtain ⟨a1, -, a2, a3, -⟩ := hn.open
  have b1 := rise_le a1 (by omega)
  have b2 := rise_le a2 (by omega)
  have b3 := rise_le a3 (by omega)
  exact ⟨by omega, by omega, by omega⟩
theorem lexT_ok {s : List UInt8} {r : Except Nat (List Tk)} (h : lexT s r) (h0 : parseE r = 0) : ∃ l, r = .ok l := by
  cases r with
  | ok l => exact ⟨l, rfl⟩
  | error e =>
    exfalso
    rcases h with ⟨-, he⟩ | ⟨cs, -, -, hl⟩
    · cases he; cases h0
    · exact (lexS_err _ _ _ hl).1 h0
theorem parseE_lt (r : Except Nat (List Tk)) {s : List UInt8} (h : lexT s r) : parseE r < 1000 := by
  cases r with
  | ok l =>
    show (if faultM (progOf l).2 = 0 then checkM (progOf l).1 else faultM (progOf l).2) < 1000
    split
    · exact check_lt _
    · exact fault_lt _
  | error e =>
    rcases h with ⟨-, he⟩ | ⟨cs, -, -, hl⟩
    · cases he; decide
    · exact (lexS_err _ _ _ hl).2
theorem textG_ne (p : Pg) : textG p ≠ [] := by unfold textG; simp
set_option maxRecDepth 100000 in
set_option maxHeartbeats 8000000 in
theorem once_any (s : List UInt8) (w : World) (h : Env w) : Calls Tryz.prog 4 #[.string ⟨s.toArray⟩] w fun e w' => e = .returned (.bool true) ∧ Below w.heap.size w w' := by
  have cA := awake_any w (Es.of h)
  have HE : Hid (Env w) := h
  clear h
  by_cases h15 : 1500 < s.length
  · have d15 : decide (1500 < (s.length : Int)) = true := by simp; omega
    go_enter Tryz.func4, Tryz.ntmps4
    go_wp2_with fail
    refine cA.mono ?_
    rintro e w1 ⟨rfl, hb1⟩
    have HB1 : Hid (Below w.heap.size w w1) := hb1
    clear hb1 cA
    go_wp2
    go_ret
    exact ⟨rfl, HB1.out⟩
  have d15 : decide (1500 < (s.length : Int)) = false := by simp; omega
  obtain ⟨r, hr⟩ := lexT_all s
  have hlt := parseE_lt r hr
  have CPa : Hid (∀ W, Below w.heap.size w W → _) := fun W hW => parse_text s (by omega) r hr W (HE.out.below hW)
  have HLx : Hid (parseE r = 0 → ∃ l, r = .ok l ∧ PgN (progOf l).1) := fun h0 => by
    obtain ⟨l, rfl⟩ := lexT_ok hr h0
    exact ⟨l, rfl, parsed_n (by omega) hr h0⟩
  clear hr
  go_enter Tryz.func4, Tryz.ntmps4
  go_wp2_with fail
  refine cA.mono ?_
  rintro e w1 ⟨rfl, hb1⟩
  have HB1 : Hid (Below w.heap.size w w1) := hb1
  clear hb1 cA
  go_wp2_with fail
  refine Calls.mono (CPa.out w1 HB1.out) ?_
  rintro e w2 ⟨⟨iv, x, rv, rfl, hshape, hgood⟩, hb2⟩
  obtain ⟨⟨t1, n1, u1, rfl⟩, ⟨t2, n2, u2, hkv⟩, ⟨t3, n3, u3, rfl⟩⟩ := hshape
  obtain ⟨xo, xf, xn, xk⟩ := x
  dsimp only at hkv
  subst hkv
  have HB2 : Hid (Below w.heap.size w w2) := HB1.out.trans (hb2.mono HB1.out.size)
  have HGd : Hid _ := hgood
  clear hb2 hgood CPa
  by_cases h0 : parseE r = 0
  · obtain ⟨l, rfl, hPN⟩ := HLx.out h0
    obtain ⟨hat, hown⟩ := HGd.out l rfl h0
    rw [h0]
    have HPN : Hid _ := hPN
    have HAt : Hid _ := hat
    have HOw : Hid (NmAt w2 (.slice t1 n1 u1) (progOf l).1.init) := nm_of_own hown
    clear hat hown HGd HLx hPN h0 hlt
    generalize (progOf l).1 = p at *
    clear l
    obtain ⟨W, hW⟩ : ∃ W, W = w2.alloc (gobj (.slice t1 n1 u1) ⟨xo, xf, xn, .slice t2 n2 u2⟩ (.slice t3 n3 u3)) := ⟨_, rfl⟩
    have hbW : Below w2.heap.size w2 W := by rw [hW]; exact (Below.refl _ w2).alloc (Nat.le_refl _) _
    have HG : Hid (W.heap[w2.heap.size]? = some (gobj (.slice t1 n1 u1) ⟨xo, xf, xn, .slice t2 n2 u2⟩ (.slice t3 n3 u3))) := by rw [hW]; exact heap_alloc_new _ _
    have HBW : Hid (Below w.heap.size w W) := HB2.out.trans (hbW.mono HB2.out.size)
    have cG := program_text p _ _ _ HPN.out.short (fun _ => HPN.out) W (PgAt.below HAt.out hbW) (NmAt.below HOw.out hbW) (Es.of (HE.out.below HBW.out))
    have HS : Hid (progT p = textG p) := by show _ = _; unfold progT; rw [if_pos HPN.out.chk]
    rw [HS.out] at cG
    have hne := textG_ne p
    generalize hTG : textG p = S at *
    have HTG : Hid _ := hTG
    have hem : S.isEmpty = false := by
      cases S with
      | nil => exact absurd rfl hne
      | cons a b => rfl
    clear hTG hne
    go_wp2_with fail
    rw [← hW]
    refine cG.mono ?_
    rintro e w3 ⟨rfl, hb3⟩
    have HB3 : Hid (Below w.heap.size w w3) := HBW.out.trans (hb3.mono HBW.out.size)
    clear hb3 cG hW hbW HG HAt HOw
    by_cases h40 : 4000 < S.length
    · have d40 : decide (4000 < (S.length : Int)) = true := by simp; omega
      go_wp2
      go_ret
      exact ⟨rfl, HB3.out⟩
    have d40 : decide (4000 < (S.length : Int)) = false := by simp; omega
    have hsh := shown HPN.out
    have cPa := parse_text S (by omega) (.ok (toksG p)) (by rw [← HTG.out]; exact hsh.1) w3 (HE.out.below HB3.out)
    rw [hsh.2.1] at cPa
    have HPE : Hid _ := hsh.2.1
    have HPO : Hid ((progOf (toksG p)).1 = p) := hsh.2.2
    clear hsh
    go_wp2_with fail
    refine cPa.mono ?_
    rintro e w6 ⟨⟨iv, y, rv', rfl, hshape, hgood⟩, hb6⟩
    obtain ⟨hat, hown⟩ := hgood _ rfl HPE.out
    rw [HPO.out] at hat hown
    obtain ⟨⟨a1, m1, b1, rfl⟩, ⟨a2, m2, b2, hkv⟩, ⟨a3, m3, b3, rfl⟩⟩ := hshape
    obtain ⟨yo, yf, yn, yk⟩ := y
    dsimp only at hkv
    subst hkv
    have HB6 : Hid (Below w.heap.size w w6) := HB3.out.trans (hb6.mono HB3.out.size)
    obtain ⟨W7, hW7⟩ : ∃ W7, W7 = w6.alloc (gobj (.slice a1 m1 b1) ⟨yo, yf, yn, .slice a2 m2 b2⟩ (.slice a3 m3 b3)) := ⟨_, rfl⟩
    have hb7 : Below w6.heap.size w6 W7 := by rw [hW7]; exact (Below.refl _ w6).alloc (Nat.le_refl _) _
    have HB7 : Hid (Below w.heap.size w W7) := HB6.out.trans (hb7.mono HB6.out.size)
    have cG2 := program_text p _ _ _ HPN.out.short (fun _ => HPN.out) W7 (PgAt.below hat hb7) (NmAt.below (nm_of_own hown) hb7) (Es.of (HE.out.below HB7.out))
    rw [HS.out] at cG2
    clear hb6 cPa hgood hat hown HPE HPO
    go_wp2_with fail
    rw [← hW7]
    refine cG2.mono ?_
    rintro e w8 ⟨rfl, hb8⟩
    have HB8 : Hid (Below w.heap.size w w8) := HB7.out.trans (hb8.mono HB7.out.size)
    clear hb8 cG2 hW7 hb7
    go_wp2
    go_ret
    exact ⟨rfl, HB8.out⟩
  · have d0 : ((parseE r : Int) != 0) = true := by simp; omega
    generalize parseE r = pe at *
    have HB3 : Hid (Below w.heap.size w (w2.alloc (gobj (.slice t1 n1 u1) ⟨xo, xf, xn, .slice t2 n2 u2⟩ (.slice t3 n3 u3)))) := HB2.out.alloc HB2.out.size _
    clear HGd HLx
    go_wp2
    go_ret
    exact ⟨rfl, HB3.out⟩
end Go.Proofs.YtebpapmnkbehnaaGreatDoor
