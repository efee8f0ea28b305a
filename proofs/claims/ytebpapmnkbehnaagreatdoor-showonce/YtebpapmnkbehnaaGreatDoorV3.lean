/- Lists of texts: how they lie in memory, and what strings.Join answers of them; what show's kidsText answers. -/
import Derived.Test.YtebpapmnkbehnaaGreatDoorT0
import Derived.Test.YtebpapmnkbehnaaGreatDoorK7
import Derived.Lib.QuietBelow
set_option linter.unusedVariables false
set_option linter.unusedSimpArgs false
namespace Go.Proofs.YtebpapmnkbehnaaGreatDoor
open Go.RowKit Go.Joins Go.Lib

def strs (l : List (List UInt8)) : List Value := l.map fun x => .string ⟨x.toArray⟩
theorem strs_app (a b : List (List UInt8)) : strs (a ++ b) = strs a ++ strs b := by simp [strs]
theorem strs_len (l : List (List UInt8)) : (strs l).length = l.length := by simp [strs]
theorem sh_join (v : Value) (l : List (List UInt8)) (s : List UInt8) (lo n : Nat) (w : World) (h : w.ownsRow lo 9 1 v n (strs l)) (h1 : 1 ≤ l.length) (hm : l.length ≤ 100000) (hq : ∀ x ∈ l, x.length ≤ 100000) (hs : s.length ≤ 3) :
    Calls Tryz.prog 36 #[v, .string ⟨s.toArray⟩] w fun e w' => e = .returned (.string ⟨(joinS s l).toArray⟩) ∧ Below w.heap.size w w' := by
  have hn : n = l.length := by have := h.1; rw [strs_len] at this; omega
  subst hn
  rcases h.2 with ⟨-, h0⟩ | ⟨g, cap, cur, rfl, hg, hgg, hnc, hcm, hcs, htk⟩
  · omega
  have hlen := joinS_le s 100000 l hq
  have e1 : (l.map fun x => (⟨x.toArray⟩ : ByteArray)).map (·.data.toList) = l := by rw [List.map_map]; exact List.map_id' l
  have hmul : l.length * (s.length + 100000) ≤ 100000 * 100003 := Nat.mul_le_mul hm (by omega)
  have := Tryz.strings_Join g 0 cap (l.map fun x => ⟨x.toArray⟩) ⟨s.toArray⟩ w (fun j x hx => by
    rw [cell_of_row _ _ _ _ _ _ hgg]
    rw [List.getElem?_map] at hx
    have hj : j < l.length := by
      by_cases hj : j < l.length
      · exact hj
      · rw [List.getElem?_eq_none (by omega)] at hx; cases hx
    rw [List.getElem?_eq_getElem hj] at hx
    have e2 : (strs l)[j]? = some (.string x) := by
      unfold strs
      rw [List.getElem?_map, List.getElem?_eq_getElem hj]
      simp only [Option.map_some, Option.some.injEq] at hx ⊢
      rw [hx]
    rw [← htk, List.getElem?_take_of_lt (by omega), Array.getElem?_toList] at e2
    rw [Nat.zero_add]
    exact e2) (heap_lt hgg) (by simp; omega) (by simpa using hnc) (by rw [e1, join_S]; show (joinS s l).length ≤ _; omega)
  rw [e1, join_S] at this
  rw [List.length_map] at this
  exact this

theorem partsT_take (op : Int) (kids : List Pl) (k : Nat) (hk : k < kids.length) : (textP.partsT op kids).take (k + 1) = (textP.partsT op kids).take k ++ [wrapB (opW op kids[k]) (textP kids[k])] := by
  have hk' : k < (textP.partsT op kids).length := by rw [partsT_len]; exact hk
  rw [List.take_add_one, List.getElem?_eq_getElem hk', partsT_get op kids k hk]
  rfl
/-- What lies where kids are shown. -/
structure KidC (w : World) (sa : Option Addr) (kids : List Pl) (k : Nat) (hk : k < kids.length) : Prop where
  ex : ∃ b off sa2 n2 sc2 y0 y1 y2, sa = some ⟨b, off, none⟩ ∧ b < w.heap.size ∧ At4 w b (off + k * 4) ⟨y0, y1, y2, .slice sa2 n2 sc2⟩ ∧ y0 = kids[k].op ∧ (textP kids[k]).length ≤ 10000 ∧ ∀ W, Below w.heap.size w W → Calls Tryz.prog 16 #[nv ⟨y0, y1, y2, .slice sa2 n2 sc2⟩] W fun e w' => e = .returned (.string ⟨(textP kids[k]).toArray⟩) ∧ Below W.heap.size W w'

set_option maxRecDepth 100000 in
set_option maxHeartbeats 4000000 in
theorem kids_text (op f n : Int) (sa : Option Addr) (sc : Nat) (kids : List Pl) (h1 : 1 ≤ kids.length) (hm : kids.length ≤ 100000) (s : List UInt8) (hs : s.length ≤ 3) (w : World) (hk : ∀ k (hk : k < kids.length), KidC w sa kids k hk) :
    Calls Tryz.prog 35 #[nv ⟨op, f, n, .slice sa kids.length sc⟩, .string ⟨s.toArray⟩] w fun e w' => e = .returned (.string ⟨(joinS s (textP.partsT op kids)).toArray⟩) ∧ Below w.heap.size w w' := by
  obtain ⟨i0, hi, hz0, hz1, hz2⟩ := info_parts info9s
  have HK : Hid _ := hk
  clear hk
  obtain ⟨w1, hmk, hown0, hg0⟩ := run_make_own (P := Tryz.prog) (w := w.alloc (pobj ⟨op, f, n, .slice sa kids.length sc⟩)) (w.heap.size + 1) 82 9 i0 (.string ⟨#[]⟩) 1 Tryz.underlying82 hi hz0 hz1 .i64 .i64 kids.length (by rw [hz2]; omega) (by unfold maxLen; omega) (by simp)
  have HB1 : Hid (Below w.heap.size w w1) := Below.grown ((Below.refl _ w).alloc (Nat.le_refl _) _) hg0 (by simp) (fun j hj => by cases hj)
  have HR1 : Hid (w1.heap[w.heap.size]? = some (pobj ⟨op, f, n, .slice sa kids.length sc⟩)) := (hg0.block _ (by simp) (by simp)).trans (heap_alloc_new w _)
  have hown1 : Hid (w1.ownsRow (w.heap.size + 1) 9 1 (.slice (some ⟨w.heap.size + 1, 0, none⟩) 0 kids.length) 0 []) := by
    have := hown0
    rw [show (w.alloc (pobj ⟨op, f, n, .slice sa kids.length sc⟩)).heap.size = w.heap.size + 1 by simp] at this
    exact this
  obtain ⟨q0, q1, q2, q3⟩ := row4 HR1.out
  clear hown0 hg0
  go_enter Tryz.func35, Tryz.ntmps35
  go_wp2_with fail
  go_loopw [5, 15] (fun v i wr => ∃ k : Nat, k ≤ kids.length ∧ i = .int .i64 (k : Int) ∧ Hid (Below w.heap.size w wr) ∧ Hid (wr.heap[w.heap.size]? = some (pobj ⟨op, f, n, .slice sa kids.length sc⟩)) ∧ Hid (wr.ownsRow (w.heap.size + 1) 9 1 v k (strs ((textP.partsT op kids).take k)))) (fun _ i _ => kids.length - (intOf i).toNat)
  case atStart => exact ⟨0, Nat.zero_le _, rfl, HB1, HR1, hown1⟩
  case round =>
    clear q0 q1 q2 q3 hmk HB1 HR1 hown1
    obtain ⟨k, hkl, rfl, HB, HR, HO⟩ := hrel
    obtain ⟨q0, q1, q2, q3⟩ := row4 HR.out
    have hwr := HB.out.size
    have hlr := heap_lt HR.out
    by_cases hlt : k < kids.length
    · obtain ⟨b, off, sa2, n2, sc2, y0, y1, y2, rfl, hb, ha, hop, hle, hc⟩ := (HK.out k hlt).ex
      obtain ⟨a0, a1, a2, a3⟩ := ha.same (HB.out.block b hb)
      have HBa : Hid (Below w.heap.size w (wr.alloc (pobj ⟨y0, y1, y2, .slice sa2 n2 sc2⟩))) := HB.out.alloc hwr _
      have cK := kid_text op f n (some ⟨b, off, none⟩) kids.length sc y0 y1 y2 sa2 n2 sc2 kids[k] hop (by omega) (wr.alloc (pobj ⟨y0, y1, y2, .slice sa2 n2 sc2⟩)) (fun W hW => hc W (HBa.out.trans (hW.mono HBa.out.size)))
      have HTk : Hid _ := partsT_take op kids k hlt
      have hwl := wrapB_le (opW op kids[k]) (textP kids[k])
      generalize hX : wrapB (opW op kids[k]) (textP kids[k]) = X at *
      clear hX ha hc hop
      have hXl : X.length ≤ 10002 := by omega
      go_wp2_with fail
      refine cK.mono ?_
      rintro e w2 ⟨rfl, hb2⟩
      have HB2 : Hid (Below w.heap.size w w2) := HBa.out.trans (hb2.mono HBa.out.size)
      have HR2 : Hid (w2.heap[w.heap.size]? = some (pobj ⟨op, f, n, .slice (some ⟨b, off, none⟩) kids.length sc⟩)) := (hb2.block _ (by simp; omega)).trans ((Below.heap_alloc _ _ _ hlr).trans HR.out)
      have hown2 := own_below (own_below HO.out ((Below.refl _ wr).alloc (Nat.le_refl _) (pobj ⟨y0, y1, y2, .slice sa2 n2 sc2⟩))) hb2
      have hw2 := HB2.out.size
      have hl2 := heap_lt HR2.out
      clear hb2 cK HBa HB HR HO q0 q1 q2 q3 a0 a1 a2 a3
      go_wp2_with (at_builtin; refine wpList_append_own_at _ rfl _ _ 82 rfl (w.heap.size + 1) 9 i0 (.string ⟨#[]⟩) 1 16 Tryz.underlying82 hi hz0 hz1 hz2 rfl (by decide) u5 _ _ rfl (hown2.alloc _) ⟨w2.heap.size, 0, none⟩ 1 1 [.string ⟨X.toArray⟩] rfl rfl (cell_one_new _ _ _) (fun x hx => by simp at hx; rw [hx]; rfl) (by unfold maxLen; omega) (by omega) (by simp; omega) ?_; intro v4 w4 hown4 hgrow4 hnil4 hloc4)
      have HB4 : Hid (Below w.heap.size w w4) := Below.grown (HB2.out.alloc hw2 _) hgrow4 (by simp; omega) (fun j hj => by have := (hown2.lt _ hj).1; omega)
      have HR4 : Hid (w4.heap[w.heap.size]? = some (pobj ⟨op, f, n, .slice (some ⟨b, off, none⟩) kids.length sc⟩)) := (hgrow4.block _ (by simp; omega) (fun e => by have := (hown2.lt _ e.symm).1; omega)).trans ((Below.heap_alloc _ _ _ hl2).trans HR2.out)
      have HO4 : Hid (w4.ownsRow (w.heap.size + 1) 9 1 v4 (k + 1) (strs ((textP.partsT op kids).take (k + 1)))) := by
        show World.ownsRow _ _ _ _ _ _ _
        rw [HTk.out, strs_app]
        exact hown4
      clear hown4 hgrow4 hnil4 hloc4 hown2 HB2 HR2
      go_wp2
      go_roundw
      case rel => exact ⟨k + 1, by omega, by go_num, HB4, HR4, HO4⟩
      case measure => simp [intOf]; omega
    · obtain rfl : k = kids.length := by omega
      have HTk : Hid ((textP.partsT op kids).take kids.length = textP.partsT op kids) := by show _ = _; rw [← partsT_len op kids]; exact List.take_length
      have hO := HO.out
      rw [HTk.out] at hO
      have hql : ∀ x ∈ textP.partsT op kids, x.length ≤ 100000 := by
        intro x hx
        obtain ⟨i, hi, rfl⟩ := List.getElem_of_mem hx
        have hi' : i < kids.length := by rw [← partsT_len op kids]; exact hi
        rw [partsT_get op kids i hi']
        obtain ⟨b, off, sa2, n2, sc2, y0, y1, y2, e, hb, ha, hop, hle, hc⟩ := (HK.out i hi').ex
        have := wrapB_le (opW op kids[i]) (textP kids[i])
        omega
      have cJ := sh_join u5 (textP.partsT op kids) s _ _ wr hO (by rw [partsT_len]; omega) (by rw [partsT_len]; omega) hql hs
      clear hO hql HO HTk q0 q1 q2 q3
      go_wp2_with fail
      refine cJ.mono ?_
      rintro e w2 ⟨rfl, hb2⟩
      have HB2 : Hid (Below w.heap.size w w2) := HB.out.trans (hb2.mono hwr)
      clear hb2 cJ
      go_wp2
      go_ret
      exact ⟨rfl, HB2.out⟩
end Go.Proofs.YtebpapmnkbehnaaGreatDoor
/- What show's polText answers: a policy's text; policies that are well formed, of up to 600 nodes, numbers of 16 bits. -/
set_option linter.unusedVariables false
set_option linter.unusedSimpArgs false
namespace Go.Proofs.YtebpapmnkbehnaaGreatDoor
open Go.RowKit Go.Joins Go.Lib Go.Sort

theorem node_field {parts op f n : Int} {kids : List Pl} (h : nodeB parts op f n kids = true) (ho : op = 2 ∨ op = 5) : kids = [] ∧ 0 ≤ f ∧ f < 8 := by
  rcases ho with rfl | rfl
  · have hb : nodeB parts 2 f n kids = (decide (kids.length = 0) && (decide (0 ≤ f) && decide (f < 8))) := by unfold nodeB; simp
    rw [hb] at h
    simp only [Bool.and_eq_true, decide_eq_true_eq] at h
    exact ⟨List.length_eq_zero_iff.1 h.1, h.2.1, h.2.2⟩
  · have hb : nodeB parts 5 f n kids = (decide (kids.length = 0) && (decide (1 ≤ f) && decide (f < 8))) := by unfold nodeB; simp
    rw [hb] at h
    simp only [Bool.and_eq_true, decide_eq_true_eq] at h
    exact ⟨List.length_eq_zero_iff.1 h.1, by omega, h.2.2⟩
theorem node_part {parts f n : Int} {kids : List Pl} (h : nodeB parts 3 f n kids = true) : kids = [] ∧ 0 ≤ f ∧ f < parts := by
  have hb : nodeB parts 3 f n kids = (decide (kids.length = 0) && (decide (0 ≤ f) && decide (f < parts))) := by unfold nodeB; simp
  rw [hb] at h
  simp only [Bool.and_eq_true, decide_eq_true_eq] at h
  exact ⟨List.length_eq_zero_iff.1 h.1, h.2.1, h.2.2⟩
theorem node_not {parts f n : Int} {kids : List Pl} (h : nodeB parts 4 f n kids = true) : ∃ k, kids = [k] := by
  have hb : nodeB parts 4 f n kids = (decide (kids.length = 1) && (decide (f = 0) && decide (n = 0)) && pred0 kids) := by unfold nodeB; simp
  rw [hb] at h
  simp only [Bool.and_eq_true, decide_eq_true_eq] at h
  exact List.length_eq_one_iff.1 h.1.1
theorem node_many {parts op f n : Int} {kids : List Pl} (h : nodeB parts op f n kids = true) (h0 : op ≠ 0) (h1 : op ≠ 1) (h2 : op ≠ 2) (h3 : op ≠ 3) (h4 : op ≠ 4) (h5 : op ≠ 5) : (op = 6 ∨ op = 7) ∧ 2 ≤ kids.length := by
  unfold nodeB at h
  rw [if_neg (by omega), if_neg h2, if_neg h3, if_neg h5, if_neg h4] at h
  split at h
  · rename_i h67
    simp only [Bool.and_eq_true, decide_eq_true_eq] at h
    exact ⟨h67, h.1⟩
  · cases h

set_option maxRecDepth 100000 in
set_option maxHeartbeats 8000000 in
theorem pol_text {P : Nat → Prop} (parts : Int) (hpa : parts ≤ 9) : ∀ (m : Nat) (T : Pl) (x : Nd) (w : World), sizeP T ≤ m → m ≤ 600 → formP parts T = true → okN T → PolAt P w T x → Es w → Calls Tryz.prog 16 #[nv x] w fun e w' => e = .returned (.string ⟨(textP T).toArray⟩) ∧ Below w.heap.size w w'
  | 0, T, x, w, h, _, _, _, _, _ => absurd (size_pos T) (by omega)
  | m + 1, .mk op f n kids, x, w, hs, hm, hf, hn, hp, hE => by
    obtain ⟨sa, sc, rfl, hk⟩ := hp.open
    rw [formP_mk, Bool.and_eq_true] at hf
    rw [okN] at hn
    rw [sizeP_mk] at hs
    have hl := len_le kids
    have HKC : Hid (∀ W, Below w.heap.size w W → ∀ k (hk : k < kids.length), KidC W sa kids k hk) := by
      intro W hW k hkl
      obtain ⟨b, off, sa2, n2, sc2, y0, y1, y2, e, hb, ha, hpk⟩ := hk k hkl
      have hsz := size_get kids k hkl
      have hlen := textP_len parts hpa m kids[k] (by omega) (form_get parts kids hf.2 k hkl) (okN_get kids hn.2 k hkl)
      refine ⟨⟨b, off, sa2, n2, sc2, y0, y1, y2, e, Nat.lt_of_lt_of_le hb hW.size, ha.same (hW.block b hb), hpk.shape.1, by omega, fun W' hW' => ?_⟩⟩
      have hWW : Below w.heap.size w W' := hW.trans (hW'.mono hW.size)
      exact pol_text parts hpa m kids[k] _ W' (by omega) (by omega) (form_get parts kids hf.2 k hkl) (okN_get kids hn.2 k hkl) (hpk.below hWW) (hE.below hWW)
    have hnode := hf.1
    obtain ⟨N, rfl⟩ := Int.eq_ofNat_of_zero_le hn.1.1
    have hN : N ≤ 65535 := by have := hn.1.2; omega
    have hb0 : Below w.heap.size w (w.alloc (pobj ⟨op, f, (N : Int), .slice sa kids.length sc⟩)) := (Below.refl _ w).alloc (Nat.le_refl _) _
    have HE0 : Hid (Es (w.alloc (pobj ⟨op, f, (N : Int), .slice sa kids.length sc⟩))) := hE.below hb0
    have HB0 : Hid _ := hb0
    have HH : Hid _ := hk
    clear hp hE hf hn hb0 hk
    rw [textP_mk]
    by_cases h0 : op = 0
    · subst h0
      rw [if_pos rfl]
      go_enter Tryz.func16, Tryz.ntmps16
      go_wp2
      go_ret
      exact ⟨rfl, HB0.out⟩
    rw [if_neg h0]
    by_cases h1 : op = 1
    · subst h1
      rw [if_pos rfl]
      go_enter Tryz.func16, Tryz.ntmps16
      go_wp2
      go_ret
      exact ⟨rfl, HB0.out⟩
    rw [if_neg h1]
    by_cases h2 : op = 2
    · subst h2
      rw [if_pos rfl]
      obtain ⟨-, hf0, hf8⟩ := node_field hnode (.inl rfl)
      have c := field_text f [61] N _ HE0.out hf0 hf8 hN (by decide)
      clear hnode h0 h1
      go_enter Tryz.func16, Tryz.ntmps16
      go_wp2_with fail
      refine c.mono ?_
      rintro e w1 ⟨rfl, hb1⟩
      have HB1 : Hid (Below w.heap.size w w1) := HB0.out.trans (hb1.mono HB0.out.size)
      clear hb1 c
      go_wp2
      go_ret
      exact ⟨rfl, HB1.out⟩
    rw [if_neg h2]
    by_cases h3 : op = 3
    · subst h3
      rw [if_pos rfl]
      obtain ⟨-, hf0, hfp⟩ := node_part hnode
      obtain ⟨F, rfl⟩ := Int.eq_ofNat_of_zero_le hf0
      have c := part_text F [61] N _ HE0.out (by omega) hN (by decide)
      clear hnode h0 h1 h2
      go_enter Tryz.func16, Tryz.ntmps16
      go_wp2_with fail
      refine c.mono ?_
      rintro e w1 ⟨rfl, hb1⟩
      have HB1 : Hid (Below w.heap.size w w1) := HB0.out.trans (hb1.mono HB0.out.size)
      clear hb1 c
      go_wp2
      go_ret
      exact ⟨rfl, HB1.out⟩
    rw [if_neg h3]
    by_cases h5 : op = 5
    · subst h5
      rw [if_pos rfl]
      obtain ⟨-, hf0, hf8⟩ := node_field hnode (.inr rfl)
      have c := field_text f [58, 61] N _ HE0.out hf0 hf8 hN (by decide)
      clear hnode h0 h1 h2 h3
      go_enter Tryz.func16, Tryz.ntmps16
      go_wp2_with fail
      refine c.mono ?_
      rintro e w1 ⟨rfl, hb1⟩
      have HB1 : Hid (Below w.heap.size w w1) := HB0.out.trans (hb1.mono HB0.out.size)
      clear hb1 c
      go_wp2
      go_ret
      exact ⟨rfl, HB1.out⟩
    rw [if_neg h5]
    by_cases h4 : op = 4
    · subst h4
      rw [if_pos rfl]
      obtain ⟨K, rfl⟩ := node_not hnode
      have e1 : joinS [] (textP.partsT 4 [K]) = wrapB (opW 4 K) (textP K) := by simp [textP.partsT, joinS]
      rw [e1]
      obtain ⟨W, hW⟩ : ∃ W, W = w.alloc (pobj ⟨4, f, (N : Int), .slice sa [K].length sc⟩) := ⟨_, rfl⟩
      have hrow : W.heap[w.heap.size]? = some (pobj ⟨4, f, (N : Int), .slice sa [K].length sc⟩) := by rw [hW]; exact heap_alloc_new w _
      have HBW : Hid (Below w.heap.size w W) := by rw [hW]; exact HB0
      obtain ⟨b, off, sa2, n2, sc2, y0, y1, y2, rfl, hb, ha, hop, hle, hc⟩ := (HKC.out W HBW.out 0 (by simp)).ex
      simp only [List.getElem_cons_zero] at hop hle hc
      obtain ⟨a0, a1, a2, a3⟩ := ha
      have hwl := wrapB_le (opW 4 K) (textP K)
      have c34 : Hid (∀ d os, Calls Tryz.prog 34 #[nv ⟨4, f, (N : Int), .slice (some ⟨b, off, none⟩) 1 sc⟩, nv ⟨y0, y1, y2, .slice sa2 n2 sc2⟩] (grow (redrawn W d) os) fun e w'' => e = .returned (.string ⟨(wrapB (opW 4 K) (textP K)).toArray⟩) ∧ ∃ p : Regrown, w'' = grow (redrawn W p.d) p.os) :=
        fun d os => Calls.regrown_of (kid_text 4 f N (some ⟨b, off, none⟩) 1 sc y0 y1 y2 sa2 n2 sc2 K hop (by omega) _ fun W' hW' => hc W' ((below_regrown W d os).trans (hW'.mono (below_regrown W d os).size)))
      generalize wrapB (opW 4 K) (textP K) = X at *
      have hXl : X.length ≤ 10002 := by omega
      simp only [List.length_singleton, Nat.zero_mul, Nat.add_zero] at a0 a1 a2 a3 hb hrow hW ⊢
      obtain ⟨q0, q1, q2, q3⟩ := row4 hrow
      clear hnode h0 h1 h2 h3 h5 hop hc e1 HKC HH hwl HE0 HB0 hrow
      go_enter Tryz.func16, Tryz.ntmps16
      go_wp2_with fail
      rw [← hW]
      clear hW
      have s0 := cell_regrown q0; have s1 := cell_regrown q1; have s2 := cell_regrown q2; have s3 := cell_regrown q3
      have t0 := cell_regrown a0; have t1 := cell_regrown a1; have t2 := cell_regrown a2; have t3 := cell_regrown a3
      clear q0 q1 q2 q3 a0 a1 a2 a3
      refine wp_region_quiet_below (by kernel_rfl) (by kernel_rfl) ?_
      repeat (go_big_quiet_step (first | (go_at_call 34; exact c34.out _ _)))
      refine wpQuiet_nil ?_
      intro _ hw'
      obtain ⟨⟨dq, osq⟩, hw''⟩ := hw'
      subst hw''
      have HBE : Hid (Below w.heap.size w (grow (redrawn W dq) osq)) := HBW.out.trans ((below_regrown W dq osq).mono HBW.out.size)
      clear s0 t0 s1 t1 s2 t2 s3 t3 c34 HBW
      generalize (grow (redrawn W dq) osq) = WE at *
      go_wp2
      go_ret
      exact ⟨by rw [not_str]; rfl, HBE.out⟩
    rw [if_neg h4]
    obtain ⟨h67, h2l⟩ := node_many hnode h0 h1 h2 h3 h4 h5
    have hlm : kids.length ≤ 100000 := by omega
    rcases h67 with rfl | rfl
    · have c := kids_text 6 f N sa sc kids (by omega) hlm [32, 59, 32] (by decide) _ (HKC.out _ HB0.out)
      have e1 : sepB 6 = [32, 59, 32] := rfl
      rw [e1]
      clear hnode h0 h1 h2 h3 h5 h4 HKC HH e1
      go_enter Tryz.func16, Tryz.ntmps16
      go_wp2_with fail
      refine c.mono ?_
      rintro e w1 ⟨rfl, hb1⟩
      have HB1 : Hid (Below w.heap.size w w1) := HB0.out.trans (hb1.mono HB0.out.size)
      clear hb1 c
      go_wp2
      go_ret
      exact ⟨rfl, HB1.out⟩
    · have c := kids_text 7 f N sa sc kids (by omega) hlm [32, 43, 32] (by decide) _ (HKC.out _ HB0.out)
      have e1 : sepB 7 = [32, 43, 32] := rfl
      rw [e1]
      clear hnode h0 h1 h2 h3 h5 h4 HKC HH e1
      go_enter Tryz.func16, Tryz.ntmps16
      go_wp2_with fail
      refine c.mono ?_
      rintro e w1 ⟨rfl, hb1⟩
      have HB1 : Hid (Below w.heap.size w w1) := HB0.out.trans (hb1.mono HB0.out.size)
      clear hb1 c
      go_wp2
      go_ret
      exact ⟨rfl, HB1.out⟩
end Go.Proofs.YtebpapmnkbehnaaGreatDoor
