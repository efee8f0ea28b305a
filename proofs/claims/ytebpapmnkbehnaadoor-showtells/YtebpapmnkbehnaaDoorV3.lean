/- Lists of texts: how they lie in memory, and what strings.Join answers of them; what show's kidsText answers. -/
import Derived.Test.YtebpapmnkbehnaaDoorV2
set_option linter.unusedVariables false
set_option linter.unusedSimpArgs false
namespace Go.Proofs.YtebpapmnkbehnaaDoor
open Go.RowKit Go.Joins Go.Lib

def strs (l : List (List UInt8)) : List Value := l.map fun x => .string ⟨x.toArray⟩
theorem strs_app (a b : List (List UInt8)) : strs (a ++ b) = strs a ++ strs b := by simp [strs]
theorem strs_len (l : List (List UInt8)) : (strs l).length = l.length := by simp [strs]
theorem sh_join (v : Value) (l : List (List UInt8)) (s : List UInt8) (lo n : Nat) (w : World) (h : w.ownsRow lo 9 1 v n (strs l)) (h1 : 1 ≤ l.length) (hm : l.length ≤ 100000) (hq : ∀ x ∈ l, x.length ≤ 100000) (hs : s.length ≤ 3) :
    Calls Tryd.prog 38 #[v, .string ⟨s.toArray⟩] w fun e w' => e = .returned (.string ⟨(joinS s l).toArray⟩) ∧ Below w.heap.size w w' := by
  have hn : n = l.length := by have := h.1; rw [strs_len] at this; omega
  subst hn
  rcases h.2 with ⟨-, h0⟩ | ⟨g, cap, cur, rfl, hg, hgg, hnc, hcm, hcs, htk⟩
  · omega
  have hlen := joinS_le s 100000 l hq
  have e1 : (l.map fun x => (⟨x.toArray⟩ : ByteArray)).map (·.data.toList) = l := by rw [List.map_map]; exact List.map_id' l
  have hmul : l.length * (s.length + 100000) ≤ 100000 * 100003 := Nat.mul_le_mul hm (by omega)
  have := Tryd.strings_Join g 0 cap (l.map fun x => ⟨x.toArray⟩) ⟨s.toArray⟩ w (fun j x hx => by
    rw [cell_of_row _ _ _ _ _ _ hgg]
    rw [List.getElem?_map] at hx
    have hj : j < l.length := by
      by_cases hj : j < l.length
      · exact hj
      · rw [List.getElem?_eq_none (by omega)] at hx; cases hx
    rw [List.getElem?_eq_getElem hj] at hx
    have e2 : (strs l)[j]? = some (.string x) := by
      unfold strs
      rw [List.getElem?_map, List.getElem?_eq_getElem hj]
      simp only [Option.map_some, Option.some.injEq] at hx ⊢
      rw [hx]
    rw [← htk, List.getElem?_take_of_lt (by omega), Array.getElem?_toList] at e2
    rw [Nat.zero_add]
    exact e2) (heap_lt hgg) (by simp; omega) (by simpa using hnc) (by rw [e1, join_S]; show (joinS s l).length ≤ _; omega)
  rw [e1, join_S] at this
  rw [List.length_map] at this
  exact this

theorem partsT_take (op : Int) (kids : List Pl) (k : Nat) (hk : k < kids.length) : (textP.partsT op kids).take (k + 1) = (textP.partsT op kids).take k ++ [wrapB (opW op kids[k]) (textP kids[k])] := by
  have hk' : k < (textP.partsT op kids).length := by rw [partsT_len]; exact hk
  rw [List.take_add_one, List.getElem?_eq_getElem hk', partsT_get op kids k hk]
  rfl
/-- What lies where kids are shown. -/
structure KidC (w : World) (sa : Option Addr) (kids : List Pl) (k : Nat) (hk : k < kids.length) : Prop where
  ex : ∃ b off sa2 n2 sc2 y0 y1 y2, sa = some ⟨b, off, none⟩ ∧ b < w.heap.size ∧ At4 w b (off + k * 4) ⟨y0, y1, y2, .slice sa2 n2 sc2⟩ ∧ y0 = kids[k].op ∧ (textP kids[k]).length ≤ 10000 ∧ ∀ W, Below w.heap.size w W → Calls Tryd.prog 15 #[nv ⟨y0, y1, y2, .slice sa2 n2 sc2⟩] W fun e w' => e = .returned (.string ⟨(textP kids[k]).toArray⟩) ∧ Below W.heap.size W w'

set_option maxRecDepth 100000 in
set_option maxHeartbeats 4000000 in
theorem kids_text (op f n : Int) (sa : Option Addr) (sc : Nat) (kids : List Pl) (h1 : 1 ≤ kids.length) (hm : kids.length ≤ 100000) (s : List UInt8) (hs : s.length ≤ 3) (w : World) (hk : ∀ k (hk : k < kids.length), KidC w sa kids k hk) :
    Calls Tryd.prog 30 #[nv ⟨op, f, n, .slice sa kids.length sc⟩, .string ⟨s.toArray⟩] w fun e w' => e = .returned (.string ⟨(joinS s (textP.partsT op kids)).toArray⟩) ∧ Below w.heap.size w w' := by
  obtain ⟨i0, hi, hz0, hz1, hz2⟩ := info_parts info9s
  have HK : Hid _ := hk
  clear hk
  obtain ⟨w1, hmk, hown0, hg0⟩ := run_make_own (P := Tryd.prog) (w := w.alloc (pobj ⟨op, f, n, .slice sa kids.length sc⟩)) (w.heap.size + 1) 58 9 i0 (.string ⟨#[]⟩) 1 Tryd.underlying58 hi hz0 hz1 .i64 .i64 kids.length (by rw [hz2]; omega) (by unfold maxLen; omega) (by simp)
  have HB1 : Hid (Below w.heap.size w w1) := Below.grown ((Below.refl _ w).alloc (Nat.le_refl _) _) hg0 (by simp) (fun j hj => by cases hj)
  have HR1 : Hid (w1.heap[w.heap.size]? = some (pobj ⟨op, f, n, .slice sa kids.length sc⟩)) := (hg0.block _ (by simp) (by simp)).trans (heap_alloc_new w _)
  have hown1 : Hid (w1.ownsRow (w.heap.size + 1) 9 1 (.slice (some ⟨w.heap.size + 1, 0, none⟩) 0 kids.length) 0 []) := by
    have := hown0
    rw [show (w.alloc (pobj ⟨op, f, n, .slice sa kids.length sc⟩)).heap.size = w.heap.size + 1 by simp] at this
    exact this
  obtain ⟨q0, q1, q2, q3⟩ := row4 HR1.out
  clear hown0 hg0
  go_enter Tryd.func30, Tryd.ntmps30
  go_wp2_with fail
  go_loopw [5, 15] (fun v i wr => ∃ k : Nat, k ≤ kids.length ∧ i = .int .i64 (k : Int) ∧ Hid (Below w.heap.size w wr) ∧ Hid (wr.heap[w.heap.size]? = some (pobj ⟨op, f, n, .slice sa kids.length sc⟩)) ∧ Hid (wr.ownsRow (w.heap.size + 1) 9 1 v k (strs ((textP.partsT op kids).take k)))) (fun _ i _ => kids.length - (intOf i).toNat)
  case atStart => exact ⟨0, Nat.zero_le _, rfl, HB1, HR1, hown1⟩
  case round =>
    clear q0 q1 q2 q3 hmk HB1 HR1 hown1
    obtain ⟨k, hkl, rfl, HB, HR, HO⟩ := hrel
    obtain ⟨q0, q1, q2, q3⟩ := row4 HR.out
    have hwr := HB.out.size
    have hlr := heap_lt HR.out
    by_cases hlt : k < kids.length
    · obtain ⟨b, off, sa2, n2, sc2, y0, y1, y2, rfl, hb, ha, hop, hle, hc⟩ := (HK.out k hlt).ex
      obtain ⟨a0, a1, a2, a3⟩ := ha.same (HB.out.block b hb)
      have HBa : Hid (Below w.heap.size w (wr.alloc (pobj ⟨y0, y1, y2, .slice sa2 n2 sc2⟩))) := HB.out.alloc hwr _
      have cK := kid_text op f n (some ⟨b, off, none⟩) kids.length sc y0 y1 y2 sa2 n2 sc2 kids[k] hop (by omega) (wr.alloc (pobj ⟨y0, y1, y2, .slice sa2 n2 sc2⟩)) (fun W hW => hc W (HBa.out.trans (hW.mono HBa.out.size)))
      have HTk : Hid _ := partsT_take op kids k hlt
      have hwl := wrapB_le (opW op kids[k]) (textP kids[k])
      generalize hX : wrapB (opW op kids[k]) (textP kids[k]) = X at *
      clear hX ha hc hop
      have hXl : X.length ≤ 10002 := by omega
      go_wp2_with fail
      refine cK.mono ?_
      rintro e w2 ⟨rfl, hb2⟩
      have HB2 : Hid (Below w.heap.size w w2) := HBa.out.trans (hb2.mono HBa.out.size)
      have HR2 : Hid (w2.heap[w.heap.size]? = some (pobj ⟨op, f, n, .slice (some ⟨b, off, none⟩) kids.length sc⟩)) := (hb2.block _ (by simp; omega)).trans ((Below.heap_alloc _ _ _ hlr).trans HR.out)
      have hown2 := own_below (own_below HO.out ((Below.refl _ wr).alloc (Nat.le_refl _) (pobj ⟨y0, y1, y2, .slice sa2 n2 sc2⟩))) hb2
      have hw2 := HB2.out.size
      have hl2 := heap_lt HR2.out
      clear hb2 cK HBa HB HR HO q0 q1 q2 q3 a0 a1 a2 a3
      go_wp2_with (at_builtin; refine wpList_append_own_at _ rfl _ _ 58 rfl (w.heap.size + 1) 9 i0 (.string ⟨#[]⟩) 1 16 Tryd.underlying58 hi hz0 hz1 hz2 rfl (by decide) u5 _ _ rfl (hown2.alloc _) ⟨w2.heap.size, 0, none⟩ 1 1 [.string ⟨X.toArray⟩] rfl rfl (cell_one_new _ _ _) (fun x hx => by simp at hx; rw [hx]; rfl) (by unfold maxLen; omega) (by omega) (by simp; omega) ?_; intro v4 w4 hown4 hgrow4 hnil4 hloc4)
      have HB4 : Hid (Below w.heap.size w w4) := Below.grown (HB2.out.alloc hw2 _) hgrow4 (by simp; omega) (fun j hj => by have := (hown2.lt _ hj).1; omega)
      have HR4 : Hid (w4.heap[w.heap.size]? = some (pobj ⟨op, f, n, .slice (some ⟨b, off, none⟩) kids.length sc⟩)) := (hgrow4.block _ (by simp; omega) (fun e => by have := (hown2.lt _ e.symm).1; omega)).trans ((Below.heap_alloc _ _ _ hl2).trans HR2.out)
      have HO4 : Hid (w4.ownsRow (w.heap.size + 1) 9 1 v4 (k + 1) (strs ((textP.partsT op kids).take (k + 1)))) := by
        show World.ownsRow _ _ _ _ _ _ _
        rw [HTk.out, strs_app]
        exact hown4
      clear hown4 hgrow4 hnil4 hloc4 hown2 HB2 HR2
      go_wp2
      go_roundw
      case rel => exact ⟨k + 1, by omega, by go_num, HB4, HR4, HO4⟩
      case measure => simp [intOf]; omega
    · obtain rfl : k = kids.length := by omega
      have HTk : Hid ((textP.partsT op kids).take kids.length = textP.partsT op kids) := by show _ = _; rw [← partsT_len op kids]; exact List.take_length
      have hO := HO.out
      rw [HTk.out] at hO
      have hql : ∀ x ∈ textP.partsT op kids, x.length ≤ 100000 := by
        intro x hx
        obtain ⟨i, hi, rfl⟩ := List.getElem_of_mem hx
        have hi' : i < kids.length := by rw [← partsT_len op kids]; exact hi
        rw [partsT_get op kids i hi']
        obtain ⟨b, off, sa2, n2, sc2, y0, y1, y2, e, hb, ha, hop, hle, hc⟩ := (HK.out i hi').ex
        have := wrapB_le (opW op kids[i]) (textP kids[i])
        omega
      have cJ := sh_join u5 (textP.partsT op kids) s _ _ wr hO (by rw [partsT_len]; omega) (by rw [partsT_len]; omega) hql hs
      clear hO hql HO HTk q0 q1 q2 q3
      go_wp2_with fail
      refine cJ.mono ?_
      rintro e w2 ⟨rfl, hb2⟩
      have HB2 : Hid (Below w.heap.size w w2) := HB.out.trans (hb2.mono hwr)
      clear hb2 cJ
      go_wp2
      go_ret
      exact ⟨rfl, HB2.out⟩
end Go.Proofs.YtebpapmnkbehnaaDoor
