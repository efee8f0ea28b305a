/- Walks over the functions of package packet; no conditions of mine. -/
import Derived.Test.YtcfploigpnjmoaaDoorA6
import Derived.Test.YtcfploigpnjmoaaDoorA3
set_option linter.unusedVariables false
set_option linter.unusedSimpArgs false
namespace Go.Proofs.YtcfploigpnjmoaaDoor
open Go.RowKit Go.Joins Go.Sort

/-- What Read makes of the rest of a text: the packet so far, and which fields were said. -/
def rd : Nat → List UInt8 → List Int → List Bool → Option (List Int)
  | 0, _, p, _ => some p
  | n + 1, l, p, m =>
    if l = [] then some p
    else if (Lib.cut l [32]).1 = [] then rd n (Lib.cut l [32]).2.1 p m
    else match rpair (Lib.cut l [32]).1 with
      | none => none
      | some (f, x) => if m.getD f false = true then none else rd n (Lib.cut l [32]).2.1 (p.set f x) (m.set f true)
def zero8 : List Int := [0, 0, 0, 0, 0, 0, 0, 0]
def none8 : List Bool := [false, false, false, false, false, false, false, false]
def readOf (l : List UInt8) : Option (List Int) := rd (l.length + 1) l zero8 none8
abbrev cellsP (p : List Int) : Array Value := (p.map fun z => Value.int .u16 z).toArray
abbrev cellsM (m : List Bool) : Array Value := (m.map fun z => Value.bool z).toArray

theorem rpair_lt (l : List UInt8) (f x : Nat) (h : rpair l = some (f, x)) : f < 8 ∧ x ≤ 65535 := by
  unfold rpair at h
  split at h
  · rename_i f' n' hf hn
    injection h with h
    injection h with h1 h2
    subst h1 h2
    refine ⟨?_, ?_⟩
    · unfold fieldOf at hf
      rw [List.findIdx?_eq_some_iff_getElem] at hf
      obtain ⟨h8, _⟩ := hf
      exact h8
    · unfold rnum at hn
      split at hn
      · cases hn
      · split at hn
        · rename_i u hu
          injection hn with hn
          subst hn
          exact parseUintB_le _ _ hu
        · cases hn
  · cases h

theorem cut_lt (l : List UInt8) (h : l ≠ []) : (Lib.cut l [32]).2.1.length < l.length := by
  have h0 : 0 < l.length := List.length_pos_iff.2 h
  unfold Lib.cut; split <;> simp <;> omega
theorem cellsP_at {w : World} {g : Nat} {t : TypeId} {p : List Int} (hg : w.heap[g]? = some (.cells (cellsP p) t)) (f : Nat) (hf : f < p.length) : w.cell? ⟨g, f, none⟩ = some (.int .u16 (p.getD f 0)) := by
  rw [cell_of_row w g f _ _ _ hg]
  simp [cellsP, List.getD_eq_getElem?_getD, List.getElem?_eq_getElem hf]
theorem cellsM_at {w : World} {g : Nat} {t : TypeId} {m : List Bool} (hg : w.heap[g]? = some (.cells (cellsM m) t)) (f : Nat) (hf : f < m.length) : w.cell? ⟨g, f, none⟩ = some (.bool (m.getD f false)) := by
  rw [cell_of_row w g f _ _ _ hg]
  simp [cellsM, List.getD_eq_getElem?_getD, List.getElem?_eq_getElem hf]
theorem cellsP_set {w : World} {g : Nat} {t : TypeId} {p : List Int} (hg : w.heap[g]? = some (.cells (cellsP p) t)) (f : Nat) (x : Int) : (w.setCell ⟨g, f, none⟩ (.int .u16 x)).heap[g]? = some (.cells (cellsP (p.set f x)) t) := by
  rw [heap_setCell_same w g f _ t _ hg]
  simp [cellsP, List.map_set]
theorem cellsM_set {w : World} {g : Nat} {t : TypeId} {m : List Bool} (hg : w.heap[g]? = some (.cells (cellsM m) t)) (f : Nat) (x : Bool) : (w.setCell ⟨g, f, none⟩ (.bool x)).heap[g]? = some (.cells (cellsM (m.set f x)) t) := by
  rw [heap_setCell_same w g f _ t _ hg]
  simp [cellsM, List.map_set]
theorem heap_alloc3_new (w : World) (A B C : Obj) : (((w.alloc A).alloc B).alloc C).heap[w.heap.size + 1 + 1]? = some C := by
  have := heap_alloc_new ((w.alloc A).alloc B) C
  rw [World.size_alloc, World.size_alloc] at this
  exact this
theorem heap_lt {w : World} {g : Nat} {o : Obj} (h : w.heap[g]? = some o) : g < w.heap.size := (Array.getElem?_eq_some_iff.1 h).1

set_option maxRecDepth 100000 in
set_option maxHeartbeats 1000000 in
theorem read_any (s : ByteArray) (w : World) (h : Env w) (hs : s.size ≤ 1000) :
    Calls Tryd.prog 20 #[.string s] w fun e w' => e = .returned (.tuple #[pkl ((readOf s.data.toList).getD zero8), .bool (readOf s.data.toList).isSome]) ∧ Below w.heap.size w w' := by
  go_enter Tryd.func20, Tryd.ntmps20
  go_wp2
  go_loopw [0] (fun v wr => ∃ (n : Nat) (l : List UInt8) (p : List Int) (m : List Bool), v = .string ⟨l.toArray⟩ ∧ l.length < n ∧ l.length ≤ 1000 ∧ p.length = 8 ∧ m.length = 8 ∧ Hid (readOf s.data.toList = rd n l p m) ∧ wr.heap[w.heap.size]? = some (.cells #[.int .u16 0, .int .u16 0, .int .u16 0, .int .u16 0, .int .u16 0, .int .u16 0, .int .u16 0, .int .u16 0] 24) ∧ wr.heap[w.heap.size + 1]? = some (.cells (cellsP p) 24) ∧ wr.heap[w.heap.size + 1 + 1]? = some (.cells (cellsM m) 68) ∧ Below w.heap.size w wr) (fun v _ => match v with | .string b => b.size | _ => 0)
  case atStart =>
    refine ⟨s.data.toList.length + 1, s.data.toList, zero8, none8, by rw [Lib.mk_data], Nat.lt_succ_self _, by rw [← Lib.size_eq]; exact hs, rfl, rfl, rfl, ?_, ?_, ?_, ?_⟩
    · rw [Below.heap_alloc _ _ _ (by simp; omega), Below.heap_alloc _ _ _ (by simp)]; exact heap_alloc_new _ _
    · rw [Below.heap_alloc _ _ _ (by simp)]; exact heap_alloc2_new w _ _
    · exact heap_alloc3_new w _ _ _
    · exact (((Below.refl _ _).alloc (Nat.le_refl _) _).alloc (by simp) _).alloc (by simp; omega) _
  case round =>
    obtain ⟨n, l, p, m, rfl, hn, hl, hp, hm, hR, hb0, hb1, hb2, hbw⟩ := hrel
    have hE := h.below hbw
    by_cases hne : l = []
    · subst hne
      obtain ⟨k, rfl⟩ : ∃ k, n = k + 1 := ⟨n - 1, by simp at hn; omega⟩
      have hR' : Hid (readOf s.data.toList = some p) := by
        show _ = _
        rw [hR.out, rd, if_pos rfl]
      clear hR hE h
      obtain ⟨b0, b1, b2, b3, b4, b5, b6, b7, rfl⟩ := eight hp
      simp only [cellsP, List.map_cons, List.map_nil] at hb1
      obtain ⟨⟨q0, q1, q2, q3, q4, q5, q6, q7⟩, _, hsz⟩ := row8 hb1
      obtain ⟨⟨g0, g1, g2, g3, g4, g5, g6, g7⟩, ⟨f0, f1, f2, f3, f4, f5, f6, f7⟩, _⟩ := row8 hb0
      go_wp2
      refine bodyPost_ret (v := .tuple #[pk b0 b1 b2 b3 b4 b5 b6 b7, .bool true]) ?_ rfl ⟨?_, below8 hbw (by omega) _ _ _ _ _ _ _ _⟩
      · obtain ⟨⟨h0, h1, h2, h3, h4, h5, h6, h7⟩, _, _⟩ := row8 (set8 (.int .u16 b0) (.int .u16 b1) (.int .u16 b2) (.int .u16 b3) (.int .u16 b4) (.int .u16 b5) (.int .u16 b6) (.int .u16 b7) hb0)
        simp [results, Tryd.results20, go_sem, h0, h1, h2, h3, h4, h5, h6, h7]
      · rw [hR'.out]; rfl
    · have hie : l.isEmpty = false := by cases l <;> simp_all
      have hc1 := cut_small l [32]
      have hc2 := cut_lt l hne
      obtain ⟨k, rfl⟩ : ∃ k, n = k + 1 := ⟨n - 1, by omega⟩
      have hR1 : Hid (readOf s.data.toList = if (Lib.cut l [32]).1 = [] then rd k (Lib.cut l [32]).2.1 p m
        else match rpair (Lib.cut l [32]).1 with
        | none => none
        | some (f, x) => if m.getD f false = true then none else rd k (Lib.cut l [32]).2.1 (p.set f x) (m.set f true)) := by
        show _ = _
        rw [hR.out, rd, if_neg hne]
      clear hR
      go_wp2_with fail
      refine (Tryd.strings_Cut_shaped ⟨l.toArray⟩ ⟨#[32]⟩ wr hE.shape (by simp [ByteArray.size]; omega)).mono ?_
      rintro e w1 ⟨rfl, n1, rfl⟩
      have hbd : Below wr.heap.size wr (wr.drewN n1) := below_drewN (Below.refl _ _) _
      have hE1 : Env (wr.drewN n1) := hE.below hbd
      rw [show (⟨l.toArray⟩ : ByteArray).data.toList = l from rfl, show (⟨#[32]⟩ : ByteArray).data.toList = [32] from rfl]
      generalize (Lib.cut l [32]).1 = x at *
      generalize (Lib.cut l [32]).2.1 = y at *
      generalize (Lib.cut l [32]).2.2 = z at *
      clear hE h hne
      by_cases hx : x = []
      · subst hx
        have hR2 : Hid (readOf s.data.toList = rd k y p m) := by
          show _ = _
          rw [hR1.out, if_pos rfl]
        clear hR1
        go_wp2
        go_roundw
        case rel => exact ⟨k, y, p, m, rfl, by omega, by omega, hp, hm, hR2, hb0, hb1, hb2, below_drewN hbw _⟩
        case measure => simp [ByteArray.size]; omega
      · have hxe : x.isEmpty = false := by cases x <;> simp_all
        have hR2 : Hid (readOf s.data.toList = match rpair x with
          | none => none
          | some (f, x) => if m.getD f false = true then none else rd k y (p.set f x) (m.set f true)) := by
          show _ = _
          rw [hR1.out, if_neg hx]
        clear hR1 hx
        go_wp2_with fail
        refine (readPair_any ⟨x.toArray⟩ (by simp [ByteArray.size]; omega) _ hE1).mono ?_
        rintro e w2 ⟨rfl, hb⟩
        rw [show (⟨x.toArray⟩ : ByteArray).data.toList = x from rfl]
        have hk0 : w2.heap[w.heap.size]? = some (.cells #[.int .u16 0, .int .u16 0, .int .u16 0, .int .u16 0, .int .u16 0, .int .u16 0, .int .u16 0, .int .u16 0] 24) := by
          rw [hb.block _ (heap_lt hb0)]; exact hb0
        have hk1 : w2.heap[w.heap.size + 1]? = some (.cells (cellsP p) 24) := by
          rw [hb.block _ (heap_lt hb1)]; exact hb1
        have hk2 : w2.heap[w.heap.size + 1 + 1]? = some (.cells (cellsM m) 68) := by
          rw [hb.block _ (heap_lt hb2)]; exact hb2
        have hbw2 : Below w.heap.size w w2 := (below_drewN hbw _).trans (hb.mono (hbw.size))
        clear hb hb0 hb1 hb2 hbw hbd hE1
        cases hrp : rpair x with
        | none =>
          rw [hrp] at hR2
          have hR3 : Hid (readOf s.data.toList = none) := hR2
          clear hR2 hrp
          obtain ⟨⟨g0, g1, g2, g3, g4, g5, g6, g7⟩, ⟨f0, f1, f2, f3, f4, f5, f6, f7⟩, _⟩ := row8 hk0
          go_wp2
          refine bodyPost_ret (v := .tuple #[pk 0 0 0 0 0 0 0 0, .bool false]) ?_ rfl ⟨?_, below8 hbw2 (by omega) _ _ _ _ _ _ _ _⟩
          · obtain ⟨⟨h0, h1, h2, h3, h4, h5, h6, h7⟩, _, _⟩ := row8 (set8 (.int .u16 0) (.int .u16 0) (.int .u16 0) (.int .u16 0) (.int .u16 0) (.int .u16 0) (.int .u16 0) (.int .u16 0) hk0)
            simp [results, Tryd.results20, go_sem, h0, h1, h2, h3, h4, h5, h6, h7]
          · rw [hR3.out]; rfl
        | some fx =>
          obtain ⟨f, u⟩ := fx
          obtain ⟨hf8, hu⟩ := rpair_lt x f u hrp
          rw [hrp] at hR2
          clear hrp
          have hmf := cellsM_at hk2 f (by omega)
          cases hmv : m.getD f false with
          | true =>
            have hR3 : Hid (readOf s.data.toList = none) := by
              show _ = _
              rw [hR2.out]
              simp only [hmv]
              rfl
            rw [hmv] at hmf
            clear hR2 hmv
            obtain ⟨⟨g0, g1, g2, g3, g4, g5, g6, g7⟩, ⟨f0, f1, f2, f3, f4, f5, f6, f7⟩, _⟩ := row8 hk0
            go_wp2
            refine bodyPost_ret (v := .tuple #[pk 0 0 0 0 0 0 0 0, .bool false]) ?_ rfl ⟨?_, below8 hbw2 (by omega) _ _ _ _ _ _ _ _⟩
            · obtain ⟨⟨h0, h1, h2, h3, h4, h5, h6, h7⟩, _, _⟩ := row8 (set8 (.int .u16 0) (.int .u16 0) (.int .u16 0) (.int .u16 0) (.int .u16 0) (.int .u16 0) (.int .u16 0) (.int .u16 0) hk0)
              simp [results, Tryd.results20, go_sem, h0, h1, h2, h3, h4, h5, h6, h7]
            · rw [hR3.out]; rfl
          | false =>
            have hR3 : Hid (readOf s.data.toList = rd k y (p.set f u) (m.set f true)) := by
              show _ = _
              rw [hR2.out]
              simp only [hmv]
              rfl
            rw [hmv] at hmf
            clear hR2 hmv
            have hpf := cellsP_at hk1 f (by omega)
            have hfz1 := frozen_of_row w2 (w.heap.size + 1) f _ _ hk1
            have hfz2 := frozen_of_row w2 (w.heap.size + 1 + 1) f _ _ hk2
            go_wp2
            go_roundw
            case rel =>
              refine ⟨k, y, p.set f u, m.set f true, rfl, by omega, by omega, by simpa using hp, by simpa using hm, hR3, ?_, ?_, ?_, ?_⟩
              · rw [heap_setCell_other _ _ _ _ (by simp), heap_setCell_other _ _ _ _ (by simp; omega)]; exact hk0
              · exact cellsP_set (by rw [heap_setCell_other _ _ _ _ (by simp)]; exact hk1) f u
              · rw [heap_setCell_other _ _ _ _ (by simp)]; exact cellsM_set hk2 f true
              · exact (hbw2.setCell (p := ⟨w.heap.size + 1 + 1, f, none⟩) (by simp; omega) _).setCell (p := ⟨w.heap.size + 1, f, none⟩) (by simp) _
            case measure => simp [ByteArray.size]; omega
end Go.Proofs.YtcfploigpnjmoaaDoor
