/- What the document's run answers of a leaf; no conditions but that it is well formed. -/
import Derived.Test.YtipiepcbgjceaaaOR
import Derived.Test.YtipiepcbgjceaaaH6
import Derived.Test.YtipiepcbgjceaaaJ2
set_option linter.unusedVariables false
set_option linter.unusedSimpArgs false
namespace Go.Proofs.Ytipiepcbgjceaaa
open Go.RowKit Go.Joins

/-- What run answers. -/
def RunEnd (st : List Nat) (T : Pl) (q : P8) (w : World) (e : Ending) (w' : World) : Prop :=
  ∃ v ok, e = .returned (.tuple #[v, .bool ok]) ∧ (∃ sa ln c, v = .slice sa ln c) ∧ Below w.heap.size w w' ∧ (∀ l, mkP st T q = some l → ok = true ∧ Pks w' v l) ∧ (mkP st T q = none → ok = false)
theorem RunEnd.yes {st : List Nat} {T : Pl} {q : P8} {w w' : World} {v : Value} {l : List P8} (hb : Below w.heap.size w w') (hm : mkP st T q = some l) (hv : Pks w' v l) : RunEnd st T q w (.returned (.tuple #[v, .bool true])) w' :=
  ⟨v, true, rfl, (by obtain ⟨sa, sc, e, _⟩ := hv.form; exact ⟨_, _, _, e⟩), hb, fun l' h => by rw [hm] at h; injection h with h; subst h; exact ⟨rfl, hv⟩, fun h => by rw [hm] at h; cases h⟩
theorem RunEnd.no {st : List Nat} {T : Pl} {q : P8} {w w' : World} {sa : Option Addr} {ln c : Nat} (hb : Below w.heap.size w w') (hm : mkP st T q = none) : RunEnd st T q w (.returned (.tuple #[.slice sa ln c, .bool false])) w' :=
  ⟨_, false, rfl, ⟨_, _, _, rfl⟩, hb, fun l' h => (by rw [hm] at h; cases h), fun _ => rfl⟩
theorem pks_nil (w : World) : Pks w (.slice none 0 0) [] := .inr ⟨rfl, none, 0, rfl⟩
/-- The three blocks that run begins with. -/
theorem run_start (w : World) (x : Nd) (q : P8) : ∃ W, ((w.alloc (pobj x)).alloc (pobj8 q)).alloc (pobj8 q) = W ∧ Below w.heap.size w W ∧ W.heap[w.heap.size]? = some (pobj x) ∧ W.heap[w.heap.size + 1]? = some (pobj8 q) ∧ Pks W (.slice (some ⟨w.heap.size + 1 + 1, 0, none⟩) 1 1) [q] ∧ W.heap.size = w.heap.size + 3 := by
  refine ⟨_, rfl, (((Below.refl _ w).alloc (Nat.le_refl _) _).alloc (by simp) _).alloc (by simp; omega) _, ?_, ?_, ?_, by simp⟩
  · exact (Below.heap_alloc ((w.alloc (pobj x)).alloc (pobj8 q)) _ _ (by simp; omega)).trans ((Below.heap_alloc (w.alloc (pobj x)) _ _ (by simp)).trans (heap_alloc_new w _))
  · exact (Below.heap_alloc ((w.alloc (pobj x)).alloc (pobj8 q)) _ _ (by simp)).trans (heap_new2 w _ _)
  · have := (pv_one ((w.alloc (pobj x)).alloc (pobj8 q)) q).pks
    simpa using this
theorem form_f {f n : Int} {kids : List Pl} {op : Int} (h : formP 4 (.mk op f n kids) = true) (ho : okN (.mk op f n kids)) (hop : op = 2 ∨ op = 5) : 0 ≤ f ∧ f < 8 :=
  (says_form _ f n h ho (by rw [Says]; exact .inl ⟨hop, rfl, rfl⟩)).1
set_option maxRecDepth 100000 in
set_option maxHeartbeats 4000000 in
theorem run_0 (st : List Nat) (sv : Value) (f n : Int) (kids : List Pl) (kv : Value) (q : P8) (w : World) :
    Calls Try.prog 26 #[nv ⟨0, f, n, kv⟩, sv, q.v] w fun e w' => RunEnd st (.mk 0 f n kids) q w e w' := by
  obtain ⟨W, hW, hb, hx, hq, h1, hsz⟩ := run_start w ⟨0, f, n, kv⟩ q
  have HE : Hid (RunEnd st (.mk 0 f n kids) q w (.returned (.tuple #[.slice none 0 0, .bool true])) W) := RunEnd.yes hb (by rw [mkP_mk]; rfl) (pks_nil _)
  obtain ⟨p0, p1, p2, p3⟩ := row4 hx
  obtain ⟨⟨q0, q1, q2, q3, q4, q5, q6, q7⟩, -, -⟩ := row8 hq
  clear hx hq h1 hb
  go_enter Try.func26, Try.ntmps26
  go_wp2
  refine bodyPost_ret (v := .tuple #[.slice none 0 0, .bool true]) ?_ rfl HE.out
  simp [results, Try.results26, go_sem]
set_option maxRecDepth 100000 in
set_option maxHeartbeats 4000000 in
theorem run_1 (st : List Nat) (sv : Value) (f n : Int) (kids : List Pl) (kv : Value) (q : P8) (w : World) :
    Calls Try.prog 26 #[nv ⟨1, f, n, kv⟩, sv, q.v] w fun e w' => RunEnd st (.mk 1 f n kids) q w e w' := by
  obtain ⟨W, hW, hb, hx, hq, h1, hsz⟩ := run_start w ⟨1, f, n, kv⟩ q
  have HE : Hid (RunEnd st (.mk 1 f n kids) q w (.returned (.tuple #[.slice (some ⟨w.heap.size + 1 + 1, 0, none⟩) 1 1, .bool true])) W) := RunEnd.yes hb (by rw [mkP_mk]; rfl) h1
  obtain ⟨p0, p1, p2, p3⟩ := row4 hx
  obtain ⟨⟨q0, q1, q2, q3, q4, q5, q6, q7⟩, -, -⟩ := row8 hq
  clear hx hq h1 hb
  go_enter Try.func26, Try.ntmps26
  go_wp2
  refine bodyPost_ret (v := .tuple #[.slice (some ⟨w.heap.size + 1 + 1, 0, none⟩) 1 1, .bool true]) ?_ rfl HE.out
  simp [results, Try.results26, go_sem]
set_option maxRecDepth 100000 in
set_option maxHeartbeats 4000000 in
theorem run_2 (st : List Nat) (sv : Value) (f n : Int) (kids : List Pl) (kv : Value) (q : P8) (w : World) (hf : 0 ≤ f ∧ f < 8) :
    Calls Try.prog 26 #[nv ⟨2, f, n, kv⟩, sv, q.v] w fun e w' => RunEnd st (.mk 2 f n kids) q w e w' := by
  obtain ⟨W, hW, hb, hx, hq, h1, hsz⟩ := run_start w ⟨2, f, n, kv⟩ q
  have HE1 : Hid (q.get f = n → ∀ W', Below W.heap.size W W' → RunEnd st (.mk 2 f n kids) q w (.returned (.tuple #[.slice (some ⟨w.heap.size + 1 + 1, 0, none⟩) 1 1, .bool true])) W') := fun h W' hW' => RunEnd.yes (hb.trans (hW'.mono hb.size)) (by rw [mkP_mk]; simp [h]) (h1.below hW')
  have HE0 : Hid (q.get f ≠ n → ∀ W', Below W.heap.size W W' → RunEnd st (.mk 2 f n kids) q w (.returned (.tuple #[.slice none 0 0, .bool true])) W') := fun h W' hW' => RunEnd.yes (hb.trans (hW'.mono hb.size)) (by rw [mkP_mk]; simp [h]) (pks_nil _)
  obtain ⟨p0, p1, p2, p3⟩ := row4 hx
  obtain ⟨⟨q0, q1, q2, q3, q4, q5, q6, q7⟩, -, -⟩ := row8 hq
  have hf8 := lt8 hf
  have HWl : Hid (∀ k, Below W.heap.size W (W.drewN k)) := fun k => below_drewN (Below.refl _ W) k
  clear hx hq h1 hb hf
  rcases hf8 with rfl | rfl | rfl | rfl | rfl | rfl | rfl | rfl
  · by_cases hn : q.a0 = n
    · have dn : (q.a0 == n) = true := by simp [hn]
      have HN := hid hn
      clear hn
      go_enter Try.func26, Try.ntmps26
      go_wp2
      (try rw [hW])
      go_quiet (fail)
      go_wp2
      refine bodyPost_ret (v := .tuple #[.slice (some ⟨w.heap.size + 1 + 1, 0, none⟩) 1 1, .bool true]) ?_ rfl (HE1.out HN.out _ (HWl.out nq))
      simp [results, Try.results26, go_sem]
    · have dn : (q.a0 == n) = false := by simp [hn]
      have HN := hid hn
      clear hn
      go_enter Try.func26, Try.ntmps26
      go_wp2
      (try rw [hW])
      go_quiet (fail)
      go_wp2
      refine bodyPost_ret (v := .tuple #[.slice none 0 0, .bool true]) ?_ rfl (HE0.out HN.out _ (HWl.out nq))
      simp [results, Try.results26, go_sem]
  · by_cases hn : q.a1 = n
    · have dn : (q.a1 == n) = true := by simp [hn]
      have HN := hid hn
      clear hn
      go_enter Try.func26, Try.ntmps26
      go_wp2
      (try rw [hW])
      go_quiet (fail)
      go_wp2
      refine bodyPost_ret (v := .tuple #[.slice (some ⟨w.heap.size + 1 + 1, 0, none⟩) 1 1, .bool true]) ?_ rfl (HE1.out HN.out _ (HWl.out nq))
      simp [results, Try.results26, go_sem]
    · have dn : (q.a1 == n) = false := by simp [hn]
      have HN := hid hn
      clear hn
      go_enter Try.func26, Try.ntmps26
      go_wp2
      (try rw [hW])
      go_quiet (fail)
      go_wp2
      refine bodyPost_ret (v := .tuple #[.slice none 0 0, .bool true]) ?_ rfl (HE0.out HN.out _ (HWl.out nq))
      simp [results, Try.results26, go_sem]
  · by_cases hn : q.a2 = n
    · have dn : (q.a2 == n) = true := by simp [hn]
      have HN := hid hn
      clear hn
      go_enter Try.func26, Try.ntmps26
      go_wp2
      (try rw [hW])
      go_quiet (fail)
      go_wp2
      refine bodyPost_ret (v := .tuple #[.slice (some ⟨w.heap.size + 1 + 1, 0, none⟩) 1 1, .bool true]) ?_ rfl (HE1.out HN.out _ (HWl.out nq))
      simp [results, Try.results26, go_sem]
    · have dn : (q.a2 == n) = false := by simp [hn]
      have HN := hid hn
      clear hn
      go_enter Try.func26, Try.ntmps26
      go_wp2
      (try rw [hW])
      go_quiet (fail)
      go_wp2
      refine bodyPost_ret (v := .tuple #[.slice none 0 0, .bool true]) ?_ rfl (HE0.out HN.out _ (HWl.out nq))
      simp [results, Try.results26, go_sem]
  · by_cases hn : q.a3 = n
    · have dn : (q.a3 == n) = true := by simp [hn]
      have HN := hid hn
      clear hn
      go_enter Try.func26, Try.ntmps26
      go_wp2
      (try rw [hW])
      go_quiet (fail)
      go_wp2
      refine bodyPost_ret (v := .tuple #[.slice (some ⟨w.heap.size + 1 + 1, 0, none⟩) 1 1, .bool true]) ?_ rfl (HE1.out HN.out _ (HWl.out nq))
      simp [results, Try.results26, go_sem]
    · have dn : (q.a3 == n) = false := by simp [hn]
      have HN := hid hn
      clear hn
      go_enter Try.func26, Try.ntmps26
      go_wp2
      (try rw [hW])
      go_quiet (fail)
      go_wp2
      refine bodyPost_ret (v := .tuple #[.slice none 0 0, .bool true]) ?_ rfl (HE0.out HN.out _ (HWl.out nq))
      simp [results, Try.results26, go_sem]
  · by_cases hn : q.a4 = n
    · have dn : (q.a4 == n) = true := by simp [hn]
      have HN := hid hn
      clear hn
      go_enter Try.func26, Try.ntmps26
      go_wp2
      (try rw [hW])
      go_quiet (fail)
      go_wp2
      refine bodyPost_ret (v := .tuple #[.slice (some ⟨w.heap.size + 1 + 1, 0, none⟩) 1 1, .bool true]) ?_ rfl (HE1.out HN.out _ (HWl.out nq))
      simp [results, Try.results26, go_sem]
    · have dn : (q.a4 == n) = false := by simp [hn]
      have HN := hid hn
      clear hn
      go_enter Try.func26, Try.ntmps26
      go_wp2
      (try rw [hW])
      go_quiet (fail)
      go_wp2
      refine bodyPost_ret (v := .tuple #[.slice none 0 0, .bool true]) ?_ rfl (HE0.out HN.out _ (HWl.out nq))
      simp [results, Try.results26, go_sem]
  · by_cases hn : q.a5 = n
    · have dn : (q.a5 == n) = true := by simp [hn]
      have HN := hid hn
      clear hn
      go_enter Try.func26, Try.ntmps26
      go_wp2
      (try rw [hW])
      go_quiet (fail)
      go_wp2
      refine bodyPost_ret (v := .tuple #[.slice (some ⟨w.heap.size + 1 + 1, 0, none⟩) 1 1, .bool true]) ?_ rfl (HE1.out HN.out _ (HWl.out nq))
      simp [results, Try.results26, go_sem]
    · have dn : (q.a5 == n) = false := by simp [hn]
      have HN := hid hn
      clear hn
      go_enter Try.func26, Try.ntmps26
      go_wp2
      (try rw [hW])
      go_quiet (fail)
      go_wp2
      refine bodyPost_ret (v := .tuple #[.slice none 0 0, .bool true]) ?_ rfl (HE0.out HN.out _ (HWl.out nq))
      simp [results, Try.results26, go_sem]
  · by_cases hn : q.a6 = n
    · have dn : (q.a6 == n) = true := by simp [hn]
      have HN := hid hn
      clear hn
      go_enter Try.func26, Try.ntmps26
      go_wp2
      (try rw [hW])
      go_quiet (fail)
      go_wp2
      refine bodyPost_ret (v := .tuple #[.slice (some ⟨w.heap.size + 1 + 1, 0, none⟩) 1 1, .bool true]) ?_ rfl (HE1.out HN.out _ (HWl.out nq))
      simp [results, Try.results26, go_sem]
    · have dn : (q.a6 == n) = false := by simp [hn]
      have HN := hid hn
      clear hn
      go_enter Try.func26, Try.ntmps26
      go_wp2
      (try rw [hW])
      go_quiet (fail)
      go_wp2
      refine bodyPost_ret (v := .tuple #[.slice none 0 0, .bool true]) ?_ rfl (HE0.out HN.out _ (HWl.out nq))
      simp [results, Try.results26, go_sem]
  · by_cases hn : q.a7 = n
    · have dn : (q.a7 == n) = true := by simp [hn]
      have HN := hid hn
      clear hn
      go_enter Try.func26, Try.ntmps26
      go_wp2
      (try rw [hW])
      go_quiet (fail)
      go_wp2
      refine bodyPost_ret (v := .tuple #[.slice (some ⟨w.heap.size + 1 + 1, 0, none⟩) 1 1, .bool true]) ?_ rfl (HE1.out HN.out _ (HWl.out nq))
      simp [results, Try.results26, go_sem]
    · have dn : (q.a7 == n) = false := by simp [hn]
      have HN := hid hn
      clear hn
      go_enter Try.func26, Try.ntmps26
      go_wp2
      (try rw [hW])
      go_quiet (fail)
      go_wp2
      refine bodyPost_ret (v := .tuple #[.slice none 0 0, .bool true]) ?_ rfl (HE0.out HN.out _ (HWl.out nq))
      simp [results, Try.results26, go_sem]
end Go.Proofs.Ytipiepcbgjceaaa
