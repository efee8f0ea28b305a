/- What the document's Split answers: what stands between such bytes, for every text of at most 1000 bytes. -/
import Derived.Test.YtcfploigpnjmoaaDoorT3
set_option linter.unusedVariables false
set_option linter.unusedSimpArgs false
namespace Go.Proofs.YtcfploigpnjmoaaDoor
open Go.RowKit Go.Joins Go.Sort

def strV (l : List UInt8) : Value := .string ⟨l.toArray⟩
theorem info9 : (Tryd.prog.info? 9).map (fun i => (i.zero, i.size, i.bytes)) = some (some (.string ⟨#[]⟩), 1, 16) := by kernel_rfl

theorem ext_word (x : List UInt8) (a k : Nat) : (⟨x.toArray⟩ : ByteArray).extract a k = ⟨((x.drop a).take (k - a)).toArray⟩ := by
  rw [Lib.extract_eq]
theorem drop_at (x : List UInt8) (a k : Nat) (hlt : k < x.length) (hak : a ≤ k) : x.drop a = (x.drop a).take (k - a) ++ x[k] :: x.drop (k + 1) := by
  have h1 : (x.drop a).drop (k - a) = x.drop k := by rw [List.drop_drop]; congr 1; omega
  have h2 : x.drop k = x[k] :: x.drop (k + 1) := List.drop_eq_getElem_cons hlt
  rw [← h2, ← h1, List.take_append_drop]
theorem split_last (x : List UInt8) (c : UInt8) (W : List (List UInt8)) (a k : Nat) (hk : k = x.length) (h1 : split c x = W ++ split c (x.drop a)) (h2 : c ∉ (x.drop a).take (k - a)) :
    split c x = W ++ [(x.drop a).take (k - a)] := by
  have e : (x.drop a).take (k - a) = x.drop a := by rw [hk]; apply List.take_of_length_le; simp
  rw [e] at h2 ⊢
  rw [h1, split_none c _ h2]
theorem split_word (x : List UInt8) (c : UInt8) (W : List (List UInt8)) (a k : Nat) (hlt : k < x.length) (hak : a ≤ k) (hc : x[k] = c) (h1 : split c x = W ++ split c (x.drop a)) (h2 : c ∉ (x.drop a).take (k - a)) :
    split c x = (W ++ [(x.drop a).take (k - a)]) ++ split c (x.drop (k + 1)) := by
  have e := drop_at x a k hlt hak
  rw [hc] at e
  have e2 : split c (x.drop a) = (x.drop a).take (k - a) :: split c (x.drop (k + 1)) := by
    conv => lhs; rw [e]
    exact split_at c _ _ h2
  rw [h1, e2, List.append_assoc]; rfl
theorem word_more (x : List UInt8) (c : UInt8) (a k : Nat) (hlt : k < x.length) (hak : a ≤ k) (hc : ¬ x[k] = c) (h2 : c ∉ (x.drop a).take (k - a)) : c ∉ (x.drop a).take (k + 1 - a) := by
  have e := drop_at x a k hlt hak
  have e3 : (x.drop a).take (k + 1 - a) = (x.drop a).take (k - a) ++ [x[k]] := by
    have hl : ((x.drop a).take (k - a)).length = k - a := by simp; omega
    conv => lhs; rw [e]
    rw [show k + 1 - a = ((x.drop a).take (k - a)).length + 1 by omega, List.take_length_add_append]
    rfl
  rw [e3]
  intro hm
  rw [List.mem_append, List.mem_singleton] at hm
  rcases hm with hm | hm
  · exact h2 hm
  · exact hc hm.symm

set_option maxRecDepth 100000 in
set_option maxHeartbeats 1000000 in
theorem rsplit_any (x : List UInt8) (hx : x.length ≤ 1000) (c : UInt8) (ci : Int) (hci : Hid (ci = (c.toNat : Int))) (w : World) :
    Calls Tryd.prog 36 #[.string ⟨x.toArray⟩, .int .u8 ci] w fun e w' => ∃ v, e = .returned v ∧ w'.ownsRow w.heap.size 9 1 v (split c x).length ((split c x).map strV) ∧ Below w.heap.size w w' := by
  obtain ⟨i0, hi, hz0, hz1, hz2⟩ := info_parts info9
  go_enter Tryd.func36, Tryd.ntmps36
  go_wp2
  go_loopw [5, 6, 7] (fun v at_ i wr => ∃ (k a : Nat) (W : List (List UInt8)), i = .int .i64 k ∧ at_ = .int .i64 a ∧ k ≤ x.length + 1 ∧ a ≤ k ∧ W.length ≤ k ∧ wr.ownsRow w.heap.size 9 1 v W.length (W.map strV) ∧ Below w.heap.size w wr ∧ Hid ((k ≤ x.length → split c x = W ++ split c (x.drop a) ∧ c ∉ (x.drop a).take (k - a)) ∧ (k = x.length + 1 → W = split c x))) (fun _ _ i _ => x.length + 1 - (intOf i).toNat)
  case atStart => exact ⟨0, 0, [], rfl, rfl, by omega, by omega, by simp, World.ownsRow_nil _ _ _ _, Below.refl _ _, ⟨fun _ => ⟨by simp, by simp⟩, fun h => by omega⟩⟩
  case round =>
    obtain ⟨k, a, W, rfl, rfl, hk, hak, hWk, hown, hbw, HR⟩ := hrel
    have hsz : w.heap.size ≤ wr.heap.size := hbw.size
    by_cases hle : k ≤ x.length
    · obtain ⟨hs1, hs2⟩ := HR.out.1 hle
      have HS1 : Hid (split c x = W ++ split c (x.drop a)) := hs1
      have HS2 : Hid (c ∉ (x.drop a).take (k - a)) := hs2
      clear hs1 hs2 HR
      by_cases hend : k = x.length
      · have de : ((k : Int) == (x.length : Int)) = true := by simp; omega
        have hend' : Hid (k = x.length) := hend
        clear hend
        have hle2 : (a : Int) ≤ (k : Int) := by omega
        go_wp2_with (at_builtin; refine wpList_append_own _ rfl _ _ 27 rfl w.heap.size 9 i0 (.string ⟨#[]⟩) 1 16 Tryd.underlying27 hi hz0 hz1 hz2 rfl (by decide) u5 _ _ rfl (hown.alloc _) ⟨wr.heap.size, 0, none⟩ 1 1 [.string ((⟨x.toArray⟩ : ByteArray).extract a k)] rfl rfl (cell_one_new _ _ _) (fun y hy => by simp at hy; subst hy; rfl) (by unfold maxLen; omega) (by omega) (by simp; omega) ?_; intro v' w3 hown' hgrow3 hnil3)
        have hbw3 : Below w.heap.size w w3 := Below.grown (hbw.alloc hsz _) hgrow3 (by simp; omega) (fun j hj => (hown.lt _ hj).1)
        have hown3 : w3.ownsRow w.heap.size 9 1 v' (W ++ [(x.drop a).take (k - a)]).length ((W ++ [(x.drop a).take (k - a)]).map strV) := by
          rw [List.length_append, List.map_append, List.map_cons, List.map_nil, strV, ← ext_word x a k]
          exact hown'
        clear hown' hgrow3 hnil3
        go_wp2
        go_roundw
        case rel => exact ⟨k + 1, k + 1, W ++ [(x.drop a).take (k - a)], by go_num, by go_num, by omega, by omega, by simp; omega, hown3, hbw3, ⟨fun h => by have := hend'.out; omega, fun _ => (split_last x c W a k hend'.out HS1.out HS2.out).symm⟩⟩
        case measure => simp [intOf]; omega
      · have hend' : ((k : Int) == (x.length : Int)) = false := by simp; omega
        have hlt : k < x.length := by omega
        have hle2 : (a : Int) ≤ (k : Int) := by omega
        have hby := byteAt x k hlt
        have HB : Hid ((⟨x.toArray⟩ : ByteArray)[k]'(by simpa [ByteArray.size] using hlt) = x[k]) := hby
        clear hby hend
        by_cases hc : x[k] = c
        · have hbe : ((((⟨x.toArray⟩ : ByteArray)[k]'(by simpa [ByteArray.size] using hlt)).toNat : Int) == ci) = true := by rw [HB.out, hci.out, hc]; simp
          have HC : Hid (x[k] = c) := hc
          clear hc
          go_wp2_with (at_builtin; refine wpList_append_own _ rfl _ _ 27 rfl w.heap.size 9 i0 (.string ⟨#[]⟩) 1 16 Tryd.underlying27 hi hz0 hz1 hz2 rfl (by decide) u5 _ _ rfl (hown.alloc _) ⟨wr.heap.size, 0, none⟩ 1 1 [.string ((⟨x.toArray⟩ : ByteArray).extract a k)] rfl rfl (cell_one_new _ _ _) (fun y hy => by simp at hy; subst hy; rfl) (by unfold maxLen; omega) (by omega) (by simp; omega) ?_; intro v' w3 hown' hgrow3 hnil3)
          have hbw3 : Below w.heap.size w w3 := Below.grown (hbw.alloc hsz _) hgrow3 (by simp; omega) (fun j hj => (hown.lt _ hj).1)
          have hown3 : w3.ownsRow w.heap.size 9 1 v' (W ++ [(x.drop a).take (k - a)]).length ((W ++ [(x.drop a).take (k - a)]).map strV) := by
            rw [List.length_append, List.map_append, List.map_cons, List.map_nil, strV, ← ext_word x a k]
            exact hown'
          clear hown' hgrow3 hnil3
          go_wp2
          go_roundw
          case rel => exact ⟨k + 1, k + 1, W ++ [(x.drop a).take (k - a)], by go_num, by go_num, by omega, by omega, by simp; omega, hown3, hbw3, ⟨fun _ => ⟨(split_word x c W a k hlt hak HC.out HS1.out HS2.out), by simp⟩, fun h => by omega⟩⟩
          case measure => simp [intOf]; omega
        · have hbe : ((((⟨x.toArray⟩ : ByteArray)[k]'(by simpa [ByteArray.size] using hlt)).toNat : Int) == ci) = false := by
            rw [HB.out, hci.out, beq_eq_false_iff_ne]
            intro e
            exact hc (UInt8.toNat_inj.1 (by omega))
          have HC : Hid (¬ x[k] = c) := hc
          clear hc
          go_wp2
          go_roundw
          case rel => exact ⟨k + 1, a, W, by go_num, rfl, by omega, by omega, by omega, hown, hbw, ⟨fun _ => ⟨HS1.out, word_more x c a k hlt hak HC.out HS2.out⟩, fun h => by omega⟩⟩
          case measure => simp [intOf]; omega
    · have hkl : k = x.length + 1 := by omega
      have hW := HR.out.2 hkl
      have HW : Hid (W = split c x) := hW
      clear hW HR
      subst hkl
      go_wp2
      rcases hown.2 with ⟨hv, h0⟩ | ⟨g, cap, cur, hv, _⟩
      all_goals
        rw [hv]
        go_wp2
        go_ret
        exact ⟨_, rfl, by rw [← HW.out, ← hv]; exact hown, hbw⟩
end Go.Proofs.YtcfploigpnjmoaaDoor
