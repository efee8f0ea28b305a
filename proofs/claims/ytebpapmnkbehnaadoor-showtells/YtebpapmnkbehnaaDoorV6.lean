/- What show's isFormed, allParts, Program and Pol answer: the text of a program and of a policy, and the empty text of what isn't well formed; numbers of 16 bits. -/
import Derived.Test.YtebpapmnkbehnaaDoorV5
import Derived.Test.YtebpapmnkbehnaaDoorK11
set_option linter.unusedVariables false
set_option linter.unusedSimpArgs false
namespace Go.Proofs.YtebpapmnkbehnaaDoor
open Go.RowKit Go.Joins Go.Lib Go.Sort

/-- A builder that holds these bytes. -/
def Bd (B : Nat) (acc : List UInt8) (w : World) : Prop := Lib.IsBuilderF 50 5 B B (Lib.byteCells acc) w
theorem cells_cat (a x : List UInt8) : Lib.byteCells (a ++ x) = Lib.byteCells a ++ Lib.strCells ⟨x.toArray⟩ := by
  simp [Lib.byteCells, Lib.strCells]
theorem write_string (B : Nat) (acc x : List UInt8) (hl : acc.length ≤ 100000000) (hx : x.length ≤ 100000000) (w : World) (h : Bd B acc w) (hB : B ≤ w.heap.size) :
    Calls Tryd.prog 18 #[.pointer (some ⟨B, 0, none⟩), .string ⟨x.toArray⟩] w fun e w' => e = .returned (.tuple #[.int .i64 (x.length : Int), .nilIface]) ∧ Bd B (acc ++ x) w' ∧ Below B w w' := by
  refine (Tryd.Builder_WriteString_k B B _ ⟨x.toArray⟩ w h (by rw [Lib.byteCells_length, size_mk]; omega) hB).mono ?_
  rintro e w' ⟨he, h1, h2, h3⟩
  rw [size_mk] at he
  refine ⟨he, ?_, h2⟩
  unfold Bd
  rw [cells_cat]
  exact Or.inr h1
theorem builder_below {T e : TypeId} {B b : Nat} {p : Value} {bs : List Value} {w w' : World} (h : Lib.BuilderAtF T e B b p bs w) (hw : Below w.heap.size w w') : Lib.BuilderAtF T e B b p bs w' := by
  obtain ⟨hB, v, hb, hown, hne⟩ := h
  refine ⟨hB, v, (hw.block _ (heap_lt hb)).trans hb, ⟨hown.1, ?_⟩, hne⟩
  rcases hown.2 with hn | ⟨g, cap, cur, fz, hv, hbg, hg, rest⟩
  · exact .inl hn
  · exact .inr ⟨g, cap, cur, fz, hv, hbg, (hw.block _ (heap_lt hg)).trans hg, rest⟩
theorem Bd.below {B : Nat} {acc : List UInt8} {w w' : World} (h : Bd B acc w) (hb : Below w.heap.size w w') : Bd B acc w' := by
  unfold Bd at h ⊢
  rcases h with h | h
  · exact .inl (builder_below h hb)
  · exact .inr (builder_below h hb)
theorem Bd.lt {B : Nat} {acc : List UInt8} {w : World} (h : Bd B acc w) : B < w.heap.size := by
  unfold Bd at h
  rcases h with h | h
  · exact h.lt
  · exact h.lt
/-- Numbers lie behind a slice. -/
def NmAt (w : World) (v : Value) (L : List Nat) : Prop :=
  ∃ sa sc, v = .slice sa L.length sc ∧ ∀ k (hk : k < L.length), ∃ b off, sa = some ⟨b, off, none⟩ ∧ b < w.heap.size ∧ w.cell? ⟨b, off + k, none⟩ = some (.int .u16 (L[k] : Int))
theorem NmAt.below {w w' : World} {v : Value} {L : List Nat} (h : NmAt w v L) (hb : Below w.heap.size w w') : NmAt w' v L := by
  obtain ⟨sa, sc, e, hc⟩ := h
  refine ⟨sa, sc, e, fun k hk => ?_⟩
  obtain ⟨b, off, e1, h1, h2⟩ := hc k hk
  exact ⟨b, off, e1, Nat.lt_of_lt_of_le h1 hb.size, by rw [hb.cell (p := ⟨b, off + k, none⟩) h1]; exact h2⟩
theorem ruleT_len {parts : Int} (hpa : parts ≤ 9) {r : Rl} (hr : RlN parts r) : (ruleT r).length ≤ 1000 := by
  obtain ⟨hr1, hr0, hr2, hr3, hr4⟩ := hr.open
  have hl1 := rise_le hr1 (by omega)
  have hl2 := rise_le hr2 hpa
  have hl3 := rise_le hr3 hpa
  have hq1 : ∀ x ∈ r.when.map whenT ++ r.guard.map guardT, x.length ≤ 20 := by
    intro x hx
    rcases List.mem_append.1 hx with hx | hx
    · obtain ⟨c, hc, rfl⟩ := List.mem_map.1 hx
      exact whenT_len c (hr.w c hc)
    · obtain ⟨c, hc, rfl⟩ := List.mem_map.1 hx
      have := (rise_in _ _ _ hr2).1 c hc
      exact guardT_len c (by omega) (hr.g c hc)
  have hq2 : ∀ x ∈ r.thn.map thenT, x.length ≤ 20 := by
    intro x hx
    obtain ⟨c, hc, rfl⟩ := List.mem_map.1 hx
    have := (rise_in _ _ _ hr3).1 c hc
    exact thenT_len c (by omega) (hr.t c hc)
  have hj1 := joinS_le [32, 38, 32] 20 _ hq1
  have hj2 := joinS_le [32, 38, 32] 20 _ hq2
  simp only [List.length_append, List.length_map, List.length_cons, List.length_nil] at hj1 hj2
  unfold ruleT
  simp only [List.length_append, List.length_cons, List.length_nil]
  omega

theorem sh_check_lt (p : Pg) : checkM p < 1000 := by unfold checkM; split; decide; split <;> decide
set_option maxHeartbeats 1000000 in
theorem isFormed_any {P : Nat → Prop} (p : Pg) (iv : Value) (x : Nd) (rv : Value) (hs : PgShort p) (w : World) (h : PgAt P w iv x rv p) : Calls Tryd.prog 13 #[pgv iv x rv] w fun e w' => e = .returned (.bool (decide (checkM p = 0))) ∧ Below w.heap.size w w' := by
  have hb0 := (Below.refl _ w).alloc (Nat.le_refl _) (gobj iv x rv)
  have HB0 : Hid _ := hb0
  have cC := check_any p iv x rv hs _ (h.below hb0)
  have hlt := sh_check_lt p
  obtain ⟨sa, sc, rfl⟩ := h.ini
  obtain ⟨sr, scr, rfl, -⟩ := h.rul
  obtain ⟨-, -, -, sk, skc, hkv⟩ := h.pol.shape
  obtain ⟨xo, xf, xn, xk⟩ := x
  dsimp only at hkv
  subst hkv
  clear h hb0 hs
  generalize checkM p = c at *
  have e : ((c : Int) == 0) = decide (c = 0) := by
    by_cases h : c = 0
    · simp [h]
    · simp [h]
  go_enter Tryd.func13, Tryd.ntmps13
  go_wp2_with fail
  refine cC.mono ?_
  rintro e1 w1 ⟨rfl, hb1⟩
  have HB1 : Hid (Below w.heap.size w w1) := HB0.out.trans (hb1.mono HB0.out.size)
  clear hb1 cC HB0
  go_wp2
  go_ret
  exact ⟨by first | (rw [← e]; rfl) | rfl | simp, HB1.out⟩
theorem info26s : (Tryd.prog.info? 26).map (fun i => (i.zero, i.size, i.bytes)) = some (some (.int .u16 0), 1, 2) := by kernel_rfl
set_option maxRecDepth 100000 in
set_option maxHeartbeats 1000000 in
theorem allParts_any (w : World) : Calls Tryd.prog 14 #[] w fun e w' => (e = .returned (.slice (some ⟨w.heap.size, 0, none⟩) 4 4) ∧ NmAt w' (.slice (some ⟨w.heap.size, 0, none⟩) 4 4) [0, 0, 0, 0]) ∧ Below w.heap.size w w' := by
  obtain ⟨i0, hi, hz0, hz1, hz2⟩ := info_parts info26s
  have hmk := run_make (P := Tryd.prog) w 22 26 i0 (.int .u16 0) Tryd.underlying22 hi hz0 .i64 .i64 4 4 (by decide) (by decide) (by rw [hz2]; decide) (by decide)
  have e1 : madeCells (Value.int .u16 0).cells ((4 : Int).toNat * i0.size) = #[.int .u16 0, .int .u16 0, .int .u16 0, .int .u16 0] := by rw [hz1]; kernel_rfl
  rw [e1] at hmk
  have HN : Hid (NmAt (w.alloc (.cells #[.int .u16 0, .int .u16 0, .int .u16 0, .int .u16 0] 26)) (.slice (some ⟨w.heap.size, 0, none⟩) 4 4) [0, 0, 0, 0]) := by
    refine ⟨_, 4, rfl, fun k hk => ⟨w.heap.size, 0, rfl, by simp, ?_⟩⟩
    rw [cell_of_row _ _ _ _ _ _ (heap_alloc_new w _)]
    have hk4 : k < 4 := hk
    match k, hk4 with
    | 0, _ => rfl
    | 1, _ => rfl
    | 2, _ => rfl
    | 3, _ => rfl
  clear hz0 hz1 hz2 e1 hi
  go_enter Tryd.func14, Tryd.ntmps14
  go_wp2_with fail
  go_ret
  exact ⟨⟨rfl, HN.out⟩, (Below.refl _ w).alloc (Nat.le_refl _) _⟩

/-- A program's text; the empty text of one that isn't well formed. -/
def progT (p : Pg) : List UInt8 := if checkM p = 0 then textG p else []
theorem blank_str (t : List UInt8) : (⟨#[32]⟩ : ByteArray) ++ ⟨t.toArray⟩ = ⟨(32 :: t).toArray⟩ := by
  rw [show (⟨#[32]⟩ : ByteArray) = ⟨[32].toArray⟩ from rfl, sh_cat]
  rfl
theorem pol_str (t : List UInt8) : (⟨#[32, 46, 10, 112, 111, 108, 105, 99, 121, 32]⟩ : ByteArray) ++ ⟨t.toArray⟩ ++ ⟨#[32, 46, 10]⟩ = ⟨([32, 46, 10, 112, 111, 108, 105, 99, 121, 32] ++ t ++ [32, 46, 10]).toArray⟩ := by
  rw [show (⟨#[32, 46, 10, 112, 111, 108, 105, 99, 121, 32]⟩ : ByteArray) = ⟨[32, 46, 10, 112, 111, 108, 105, 99, 121, 32].toArray⟩ from rfl, show (⟨#[32, 46, 10]⟩ : ByteArray) = ⟨[32, 46, 10].toArray⟩ from rfl, sh_cat, sh_cat]
theorem line_str (t : List UInt8) : (⟨t.toArray⟩ : ByteArray) ++ ⟨#[10]⟩ = ⟨(t ++ [10]).toArray⟩ := by
  rw [show (⟨#[10]⟩ : ByteArray) = ⟨[10].toArray⟩ from rfl, sh_cat]
theorem flat_take {α : Type} (f : α → List UInt8) (l : List α) (k : Nat) (hk : k < l.length) : (l.take (k + 1)).flatMap f = (l.take k).flatMap f ++ f l[k] := by
  rw [List.take_add_one, List.getElem?_eq_getElem hk, List.flatMap_append]
  simp
set_option maxRecDepth 100000 in
set_option maxHeartbeats 4000000 in
theorem program_text {P : Nat → Prop} (p : Pg) (iv : Value) (x : Nd) (rv : Value) (hs : PgShort p) (hN : checkM p = 0 → PgN p) (w : World) (h : PgAt P w iv x rv p) (hI : NmAt w iv p.init) (hE : Es w) :
    Calls Tryd.prog 9 #[pgv iv x rv] w fun e w' => e = .returned (.string ⟨(progT p).toArray⟩) ∧ Below w.heap.size w w' := by
  have hb0 := (Below.refl _ w).alloc (Nat.le_refl _) (gobj iv x rv)
  have HB0 : Hid (Below w.heap.size w (w.alloc (gobj iv x rv))) := hb0
  have HW : Hid ((w.alloc (gobj iv x rv)).heap[w.heap.size]? = some (gobj iv x rv)) := heap_alloc_new w _
  have cF := isFormed_any p iv x rv hs _ (h.below hb0)
  have HP : Hid _ := h
  have HI : Hid _ := hI
  have HE : Hid _ := hE
  have HN : Hid _ := hN
  obtain ⟨sa, sc, rfl, hci⟩ := hI
  obtain ⟨sr, scr, rfl, hcr⟩ := h.rul
  obtain ⟨-, -, -, sk, skc, hkv⟩ := h.pol.shape
  obtain ⟨xo, xf, xn, xk⟩ := x
  dsimp only at hkv
  subst hkv
  have HCI : Hid _ := hci
  have HCR : Hid _ := hcr
  have hni := hs.i
  have hnr := hs.r
  generalize p.pol.kids.length = kn at *
  clear h hE hN hb0 hs hci hcr
  by_cases h0 : checkM p = 0
  · have hG : Hid (progT p = textG p) := by show _ = _; unfold progT; rw [if_pos h0]
    have hPN := HN.out h0
    rw [show decide (checkM p = 0) = true by simpa using h0] at cF
    obtain ⟨-, hfo, hru⟩ := chk_open h0
    obtain ⟨hl1, hl2, hl3, hl4, hl5⟩ := hPN.len
    have HFo : Hid _ := hfo
    have HRu : Hid (∀ r ∈ p.rules, RlN p.init.length r) := fun r hr => ⟨hru r hr, (hPN.nr r hr).1, (hPN.nr r hr).2.1, (hPN.nr r hr).2.2⟩
    have HNi : Hid (∀ n ∈ p.init, n ≤ 65535) := hPN.ni
    have HNp : Hid (okN p.pol) := hPN.np
    clear hfo hru hPN h0 HN
    go_enter Tryd.func9, Tryd.ntmps9
    go_wp2_with fail
    refine cF.mono ?_
    rintro e w1 ⟨rfl, hb1⟩
    have HB1 : Hid (Below w.heap.size w w1) := HB0.out.trans (hb1.mono HB0.out.size)
    have HW1 : Hid (w1.heap[w.heap.size]? = some (gobj (.slice sa p.init.length sc) ⟨xo, xf, xn, .slice sk kn skc⟩ (.slice sr p.rules.length scr))) := (hb1.block _ (heap_lt HW.out)).trans HW.out
    have hlw := heap_lt HW1.out
    clear hb1 cF HB0 HW
    have HB2 : Hid (Below w1.heap.size w1 (w1.alloc (.cells #[.pointer none, .slice none 0 0] 50))) := (Below.refl _ w1).alloc (Nat.le_refl _) _
    have HD2 : Hid (Bd w1.heap.size [] (w1.alloc (.cells #[.pointer none, .slice none 0 0] 50))) := Lib.IsBuilderF.of (Lib.fresh_isBuilder 50 5 w1)
    have cW := write_string w1.heap.size [] [105, 110, 105, 116] (by simp) (by simp) _ HD2.out HB2.out.size
    go_wp2_with fail
    refine cW.mono ?_
    rintro e w2 ⟨rfl, hd3, hb3⟩
    have HB3 : Hid (Below w1.heap.size w1 w2) := HB2.out.trans hb3
    have HD3 : Hid (Bd w1.heap.size [105, 110, 105, 116] w2) := hd3
    obtain ⟨q0, q1, q2, q3, q4, q5⟩ := row6 ((HB3.out.block _ hlw).trans HW1.out)
    clear hd3 hb3 cW HB2 HD2
    go_wp2_with fail
    go_loopw [15] (fun i wr => ∃ (k : Nat) (acc : List UInt8), k ≤ p.init.length ∧ i = .int .i64 (k : Int) ∧ acc.length ≤ 4 + 6 * k ∧ Hid (acc = [105, 110, 105, 116] ++ (p.init.take k).flatMap (fun n => 32 :: decDigits n)) ∧ Hid (Bd w1.heap.size acc wr) ∧ Hid (Below w1.heap.size w1 wr)) (fun i _ => p.init.length - (intOf i).toNat)
    case atStart => exact ⟨0, [105, 110, 105, 116], Nat.zero_le _, rfl, by simp, by show _ = _; simp, HD3, HB3⟩
    case round =>
      clear q0 q1 q2 q3 q4 q5 HB3 HD3
      obtain ⟨k, acc, hkl, rfl, hal, HA, HD, HBw⟩ := hrel
      have HB : Hid (Below w.heap.size w wr) := HB1.out.trans (HBw.out.mono HB1.out.size)
      obtain ⟨q0, q1, q2, q3, q4, q5⟩ := row6 ((HBw.out.block _ hlw).trans HW1.out)
      have hws := HBw.out.size
      by_cases hlt : k < p.init.length
      · obtain ⟨b, off, rfl, hb, hc⟩ := HCI.out k hlt
        have a0 := (HB.out.cell (p := ⟨b, off + k, none⟩) hb).trans hc
        have hn := HNi.out _ (List.getElem_mem hlt)
        have hd5 := digits_len5 _ hn
        have cN := sh_num p.init[k] hn wr (HE.out.below HB.out)
        have HA1 : Hid (acc ++ (32 :: decDigits p.init[k]) = [105, 110, 105, 116] ++ (p.init.take (k + 1)).flatMap (fun n => 32 :: decDigits n)) := by
          show _ = _
          rw [flat_take _ _ _ hlt, HA.out, List.append_assoc]
        clear hc HA
        generalize p.init[k] = n at *
        go_wp2_with fail
        refine cN.mono ?_
        rintro e w2 ⟨rfl, hb2⟩
        have HD2 : Hid (Bd w1.heap.size acc w2) := HD.out.below hb2
        have HBw2 : Hid (Below w1.heap.size w1 w2) := HBw.out.trans (hb2.mono hws)
        have cW := write_string w1.heap.size acc (32 :: decDigits n) (by omega) (by simp; omega) w2 HD2.out HBw2.out.size
        clear hb2 cN q0 q1 q2 q3 q4 q5 a0 HD
        go_wp2_with fail
        rw [blank_str]
        refine cW.mono ?_
        rintro e w3 ⟨rfl, hd3, hb3⟩
        have HD3 : Hid (Bd w1.heap.size (acc ++ (32 :: decDigits n)) w3) := hd3
        have HBw3 : Hid (Below w1.heap.size w1 w3) := HBw2.out.trans hb3
        clear hd3 hb3 cW HD2 HBw2
        go_wp2
        go_roundw
        case rel => exact ⟨k + 1, acc ++ (32 :: decDigits n), by omega, by go_num, by simp only [List.length_append, List.length_cons]; omega, HA1, HD3, HBw3⟩
        case measure => simp [intOf]; omega
      · obtain rfl : k = p.init.length := by omega
        have HA1 : Hid (acc = [105, 110, 105, 116] ++ p.init.flatMap (fun n => 32 :: decDigits n)) := by
          show _ = _
          rw [HA.out, List.take_length]
        clear HA hlt
        have cP := pol_text p.init.length (by omega) 300 p.pol ⟨xo, xf, xn, .slice sk kn skc⟩ wr hl4 (by omega) HFo.out HNp.out (HP.out.pol.below HB.out) (HE.out.below HB.out)
        have hpl := textP_len p.init.length (by omega) 300 p.pol hl4 HFo.out HNp.out
        generalize hPT : textP p.pol = PT at *
        have HPT : Hid _ := hPT
        clear hPT
        go_wp2_with fail
        refine cP.mono ?_
        rintro e w2 ⟨rfl, hb2⟩
        have HD2 : Hid (Bd w1.heap.size acc w2) := HD.out.below hb2
        have HBw2 : Hid (Below w1.heap.size w1 w2) := HBw.out.trans (hb2.mono hws)
        obtain ⟨p0, p1, p2, p3, p4, p5⟩ := row6 ((HBw2.out.block _ hlw).trans HW1.out)
        clear hb2 cP q0 q1 q2 q3 q4 q5
        have cW := write_string w1.heap.size acc ([32, 46, 10, 112, 111, 108, 105, 99, 121, 32] ++ PT ++ [32, 46, 10]) (by omega) (by simp; omega) w2 HD2.out HBw2.out.size
        go_wp2_with fail
        rw [pol_str]
        refine cW.mono ?_
        rintro e w3 ⟨rfl, hd3, hb3⟩
        have HBw3 : Hid (Below w1.heap.size w1 w3) := HBw2.out.trans hb3
        have hal3 : (acc ++ ([32, 46, 10, 112, 111, 108, 105, 99, 121, 32] ++ PT ++ [32, 46, 10])).length ≤ 6000 := by simp only [List.length_append, List.length_cons, List.length_nil]; omega
        have HA3 : Hid (acc ++ ([32, 46, 10, 112, 111, 108, 105, 99, 121, 32] ++ PT ++ [32, 46, 10]) ≠ []) := by show _ ≠ _; simp
        have HG3 : Hid (acc ++ ([32, 46, 10, 112, 111, 108, 105, 99, 121, 32] ++ PT ++ [32, 46, 10]) ++ (p.rules.flatMap fun r => ruleT r ++ [10]) = textG p) := by
          show _ = _
          rw [HA1.out, ← HPT.out]
          unfold textG
          simp only [List.append_assoc, List.cons_append, List.nil_append]
        have HD3 : Hid (Bd w1.heap.size (acc ++ ([32, 46, 10, 112, 111, 108, 105, 99, 121, 32] ++ PT ++ [32, 46, 10])) w3) := hd3
        clear hd3 hb3 cW HD2 HBw2 HD HBw HB p0 p1 p2 p3 p4 p5 HA1 HPT hpl hws hkl
        generalize acc ++ ([32, 46, 10, 112, 111, 108, 105, 99, 121, 32] ++ PT ++ [32, 46, 10]) = H at *
        obtain ⟨q0, q1, q2, q3, q4, q5⟩ := row6 ((HBw3.out.block _ hlw).trans HW1.out)
        go_wp2_with fail
        go_loopw [33] (fun i wr => ∃ (k : Nat) (acc : List UInt8), k ≤ p.rules.length ∧ i = .int .i64 (k : Int) ∧ acc.length ≤ 6000 + 1001 * k ∧ Hid (acc = H ++ (p.rules.take k).flatMap (fun r => ruleT r ++ [10])) ∧ Hid (Bd w1.heap.size acc wr) ∧ Hid (Below w1.heap.size w1 wr)) (fun i _ => p.rules.length - (intOf i).toNat)
        case atStart => exact ⟨0, H, Nat.zero_le _, rfl, by omega, by show _ = _; simp, HD3, HBw3⟩
        case round =>
          clear q0 q1 q2 q3 q4 q5 HBw3 HD3
          obtain ⟨k, acc, hkl, rfl, hal, HA, HD, HBw⟩ := hrel
          have HB : Hid (Below w.heap.size w wr) := HB1.out.trans (HBw.out.mono HB1.out.size)
          have hws := HBw.out.size
          by_cases hlt : k < p.rules.length
          · obtain ⟨b, off, v1, v2, v3, rfl, -, hb, ⟨c0, c1, c2⟩, hr⟩ := HCR.out k hlt
            have a0 := (HB.out.cell (p := ⟨b, off + k * 3, none⟩) hb).trans c0
            have a1 := (HB.out.cell (p := ⟨b, off + k * 3 + 1, none⟩) hb).trans c1
            have a2 := (HB.out.cell (p := ⟨b, off + k * 3 + 2, none⟩) hb).trans c2
            have hrn := HRu.out _ (List.getElem_mem hlt)
            have hrl := ruleT_len (by omega) hrn
            have HBa : Hid (Below w1.heap.size w1 (wr.alloc (robj3 v1 v2 v3))) := HBw.out.alloc hws _
            have hBa' : Below w.heap.size w (wr.alloc (robj3 v1 v2 v3)) := HB.out.alloc HB.out.size _
            have cR := rule_text p.init.length (by omega) p.rules[k] hrn v1 v2 v3 _ (hr.at.below hBa') (HE.out.below hBa')
            obtain ⟨t1, u1, rfl⟩ := hr.at.p1.shape
            obtain ⟨t2, u2, rfl⟩ := hr.at.p2.shape
            obtain ⟨t3, u3, rfl⟩ := hr.at.p3.shape
            have HA2 : Hid (acc ++ (ruleT p.rules[k] ++ [10]) = H ++ (p.rules.take (k + 1)).flatMap (fun r => ruleT r ++ [10])) := by
              show _ = _
              rw [flat_take _ _ _ hlt, HA.out, List.append_assoc]
            have HDa : Hid (Bd w1.heap.size acc (wr.alloc (robj3 (.slice t1 p.rules[k].when.length u1) (.slice t2 p.rules[k].guard.length u2) (.slice t3 p.rules[k].thn.length u3)))) := HD.out.below ((Below.refl _ wr).alloc (Nat.le_refl _) _)
            clear HA hrn hr c0 c1 c2 hBa'
            generalize ruleT p.rules[k] = X at *
            generalize p.rules[k].when.length = m1 at *
            generalize p.rules[k].guard.length = m2 at *
            generalize p.rules[k].thn.length = m3 at *
            go_wp2_with fail
            refine cR.mono ?_
            rintro e w2 ⟨rfl, hb2⟩
            have HD2 : Hid (Bd w1.heap.size acc w2) := HDa.out.below hb2
            have HBw2 : Hid (Below w1.heap.size w1 w2) := HBa.out.trans (hb2.mono HBa.out.size)
            have cW := write_string w1.heap.size acc (X ++ [10]) (by omega) (by simp; omega) w2 HD2.out HBw2.out.size
            clear hb2 cR a0 a1 a2 HD HDa HBa
            go_wp2_with fail
            rw [line_str]
            refine cW.mono ?_
            rintro e w3 ⟨rfl, hd3, hb3⟩
            have HD3 : Hid (Bd w1.heap.size (acc ++ (X ++ [10])) w3) := hd3
            have HBw3 : Hid (Below w1.heap.size w1 w3) := HBw2.out.trans hb3
            clear hd3 hb3 cW HD2 HBw2
            go_wp2
            go_roundw
            case rel => exact ⟨k + 1, acc ++ (X ++ [10]), by omega, by go_num, by simp only [List.length_append, List.length_cons, List.length_nil]; omega, HA2, HD3, HBw3⟩
            case measure => simp [intOf]; omega
          · obtain rfl : k = p.rules.length := by omega
            have HA2 : Hid (acc = textG p) := by
              show _ = _
              rw [HA.out, List.take_length, HG3.out]
            have hne : acc ≠ [] := by
              rw [HA.out]
              intro e
              exact HA3.out (List.append_eq_nil_iff.1 e).1
            have cS := Tryd.Builder_String_k w1.heap.size w1.heap.size acc wr HD.out hne
            clear hne HA HD
            go_wp2_with fail
            refine cS.mono ?_
            rintro e w2 ⟨rfl, _, hb2, _⟩
            have HB2 : Hid (Below w.heap.size w w2) := HB.out.trans (hb2.mono HB1.out.size)
            clear hb2 cS
            go_wp2
            go_ret
            exact ⟨by rw [hG.out, ← HA2.out]; rfl, HB2.out⟩
  · have hG : Hid (progT p = []) := by show _ = _; unfold progT; rw [if_neg h0]
    rw [show decide (checkM p = 0) = false by simpa using h0] at cF
    go_enter Tryd.func9, Tryd.ntmps9
    go_wp2_with fail
    refine cF.mono ?_
    rintro e w1 ⟨rfl, hb1⟩
    have HB1 : Hid (Below w.heap.size w w1) := HB0.out.trans (hb1.mono HB0.out.size)
    clear hb1 cF
    go_wp2
    go_ret
    exact ⟨by rw [hG.out]; rfl, HB1.out⟩
end Go.Proofs.YtebpapmnkbehnaaDoor
