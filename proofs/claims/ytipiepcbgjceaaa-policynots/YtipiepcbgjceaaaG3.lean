/- What room, hasPart, idIf and slices.Clone at policies answer; policies of up to 100000 nodes. -/
import Derived.Test.YtipiepcbgjceaaaG2
import Derived.Test.YtipiepcbgjceaaaR8
set_option linter.unusedVariables false
set_option linter.unusedSimpArgs false
namespace Go.Proofs.Ytipiepcbgjceaaa
open Go.RowKit Go.Joins

set_option maxRecDepth 100000 in
set_option maxHeartbeats 4000000 in
theorem proom_any {P : Nat → Prop} : ∀ (m : Nat) (T : Pl) (x : Nd) (n l : Int) (w : World), sizeP T ≤ m → m ≤ 100000 → 0 ≤ n → n ≤ 1000000000 → 0 ≤ l → l ≤ 1000000000 → PolAt P w T x → Calls Try.prog 27 #[nv x, .int .i64 n, .int .i64 l] w fun e w' => e = .returned (.int .i64 (roomP T n l)) ∧ Below w.heap.size w w'
  | 0, T, x, n, l, w, h, _, _, _, _, _, _ => absurd (size_pos T) (by omega)
  | m + 1, .mk op f nn kids, x, n, l, w, hs, hm, hn0, hn1, hl0, hl1, hp => by
    obtain ⟨sa, sc, rfl, hk⟩ := hp.open
    have ih := fun T x n w h a b c => proom_any (P := P) m T x n (l - 1) w h (by omega) a b c
    rw [sizeP_mk] at hs
    rw [roomP_mk]
    have hl := len_le kids
    have HK : Hid _ := hk
    have IH : Hid _ := ih
    clear hk ih hp
    by_cases h0 : l = 0
    · subst h0
      rw [if_pos rfl]
      clear HK IH
      go_enter Try.func27, Try.ntmps27
      go_wp2
      go_ret
      exact ⟨rfl, (Below.refl _ w).alloc (Nat.le_refl _) _⟩
    · rw [if_neg h0]
      have d0 : (l == 0) = false := by simpa using h0
      go_enter Try.func27, Try.ntmps27
      go_wp2
      go_loopw [1, 16] (fun s i wr => ∃ (k : Nat) (z : Int), k ≤ kids.length ∧ i = .int .i64 (k : Int) ∧ s = .int .i64 z ∧ -1 ≤ z ∧ z ≤ 1000000000 ∧ Hid (roomP.roomL (kids.drop k) z (l - 1) = roomP.roomL kids (n - 1) (l - 1)) ∧ Hid (Below w.heap.size w wr)) (fun _ i _ => kids.length - (intOf i).toNat)
      case atStart => exact ⟨0, n - 1, Nat.zero_le _, rfl, rfl, by omega, by omega, by show _ = _; rw [List.drop_zero], (Below.refl _ w).alloc (Nat.le_refl _) _⟩
      case round =>
        obtain ⟨k, z, hkl, rfl, rfl, hz0, hz1, HT, HB⟩ := hrel
        by_cases hlt : k < kids.length
        · obtain ⟨b, off, sa2, n2, sc2, y0, y1, y2, rfl, hb, ha, hp⟩ := HK.out k hlt
          obtain ⟨a0, a1, a2, a3⟩ := ha.same (HB.out.block b hb)
          have hwr := HB.out.size
          have hsz := size_get kids k hlt
          have htk := HT.out
          rw [drop_cons kids k hlt, roomL_cons] at htk
          by_cases hzn : z < 0
          · rw [if_pos hzn] at htk
            have HT2 : Hid (z = roomP.roomL kids (n - 1) (l - 1)) := htk
            clear hp ha htk hsz
            go_wp2
            go_ret
            exact ⟨by rw [← HT2.out]; rfl, HB.out.alloc hwr _⟩
          · rw [if_neg hzn] at htk
            have HT2 : Hid (roomP.roomL (kids.drop (k + 1)) (roomP kids[k] z (l - 1)) (l - 1) = roomP.roomL kids (n - 1) (l - 1)) := htk
            have cS := IH.out kids[k] ⟨y0, y1, y2, .slice sa2 n2 sc2⟩ z (wr.alloc (pobj ⟨y0, y1, y2, .slice sa2 n2 sc2⟩)) (by omega) (by omega) (by omega) (by omega) (by omega) ((hp.below HB.out).below ((Below.refl _ _).alloc (Nat.le_refl _) _))
            have hbd := room_bd kids[k] z (l - 1) (by omega)
            generalize roomP kids[k] z (l - 1) = z2 at *
            clear hp ha htk hsz
            go_wp2_with fail
            refine cS.mono ?_
            rintro e w1 ⟨rfl, hb1⟩
            have HB1 : Hid (Below w.heap.size w w1) := (HB.out.alloc hwr _).trans (hb1.mono (by simp; omega))
            clear hb1 cS
            go_wp2
            go_roundw
            case rel => exact ⟨k + 1, z2, by omega, by go_num, rfl, by omega, by omega, HT2, HB1⟩
            case measure => simp [intOf]; omega
        · obtain rfl : k = kids.length := by omega
          have HT2 : Hid (z = roomP.roomL kids (n - 1) (l - 1)) := by
            have := HT.out
            rw [List.drop_length, roomP.roomL] at this
            exact this
          go_wp2
          go_ret
          exact ⟨by rw [← HT2.out]; rfl, HB.out⟩

/-- A state lies there. -/
def StAt (w : World) (v : Value) (l : List Nat) : Prop :=
  ∃ sa sc, v = .slice sa l.length sc ∧ ∀ k (hk : k < l.length), ∃ b off, sa = some ⟨b, off, none⟩ ∧ b < w.heap.size ∧ w.cell? ⟨b, off + k, none⟩ = some (.int .u16 (l[k] : Int))
theorem StAt.below {w w' : World} {v : Value} {l : List Nat} (h : StAt w v l) (hb : Below w.heap.size w w') : StAt w' v l := by
  obtain ⟨sa, sc, h1, h2⟩ := h
  refine ⟨sa, sc, h1, fun k hk => ?_⟩
  obtain ⟨b, off, e1, e2, e3⟩ := h2 k hk
  exact ⟨b, off, e1, Nat.lt_of_lt_of_le e2 hb.size, (hb.cell (p := ⟨b, off + k, none⟩) e2).trans e3⟩

set_option maxRecDepth 100000 in
set_option maxHeartbeats 1000000 in
theorem hasPart_any (st : List Nat) (v : Value) (f n : Int) (w : World) (h : StAt w v st) (hm : st.length ≤ 9223372036854775807) :
    Calls Try.prog 39 #[v, .int .i64 f, .int .u16 n] w fun e w' => e = .returned (.bool (partIs st f n)) ∧ Below w.heap.size w w' := by
  obtain ⟨sa, sc, rfl, hc⟩ := h
  unfold partIs
  by_cases h0 : 0 ≤ f
  · obtain ⟨k, rfl⟩ := Int.eq_ofNat_of_zero_le h0
    have d0 : decide ((0 : Int) ≤ (k : Int)) = true := by simp
    by_cases h1 : k < st.length
    · obtain ⟨b, off, rfl, hb, c⟩ := hc k h1
      have d1 : decide ((k : Int) < (st.length : Int)) = true := by simp; omega
      have e : st.getD (k : Int).toNat 0 = st[k] := by simp [List.getD_eq_getElem?_getD, h1]
      rw [d0, d1, Bool.true_and, Bool.true_and, e]
      generalize st[k] = z at *
      clear hc
      have HC : Hid (Below w.heap.size w w) := Below.refl _ _
      generalize st.length = R at *
      go_enter Try.func39, Try.ntmps39
      go_wp2_with fail
      go_ret
      exact ⟨by rw [show ((z : Int) == n) = decide ((z : Int) = n) by by_cases h : (z : Int) = n <;> simp [h]]; rfl, HC.out⟩
    · have d1 : decide ((k : Int) < (st.length : Int)) = false := by simp; omega
      rw [d0, d1, Bool.true_and, Bool.false_and]
      clear hc
      generalize st.length = R at *
      go_enter Try.func39, Try.ntmps39
      go_wp2
      go_ret
      exact ⟨rfl, Below.refl _ _⟩
  · have d0 : decide ((0 : Int) ≤ f) = false := by simp; omega
    rw [d0, Bool.false_and, Bool.false_and]
    clear hc
    generalize st.length = R at *
    go_enter Try.func39, Try.ntmps39
    go_wp2
    go_ret
    exact ⟨rfl, Below.refl _ _⟩
theorem idIf_any (b : Bool) (w : World) : Calls Try.prog 38 #[.bool b] w fun e w' => e = .returned (.int .i64 (if b = true then 1 else 0)) ∧ w' = w := by
  cases b
  · go_enter Try.func38, Try.ntmps38
    go_wp2
    go_ret
    exact ⟨rfl, rfl⟩
  · go_enter Try.func38, Try.ntmps38
    go_wp2
    go_ret
    exact ⟨rfl, rfl⟩
end Go.Proofs.Ytipiepcbgjceaaa
