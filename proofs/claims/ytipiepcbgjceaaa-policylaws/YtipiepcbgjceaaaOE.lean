/- What hear leaves in a book: the numbers of each field, as they stand in the policy; policies of up to 1000 nodes. -/
import Derived.Test.YtipiepcbgjceaaaOC
import Derived.Test.YtipiepcbgjceaaaG1
import Derived.Test.YtipiepcbgjceaaaL4
import Derived.Test.YtipiepcbgjceaaaH6
import Derived.Deep.Cut
set_option linter.unusedVariables false
set_option linter.unusedSimpArgs false
namespace Go.Proofs.Ytipiepcbgjceaaa
open Go.RowKit Go.Joins Go.Maps

/-- The numbers that a policy says of a field, as they stand there. -/
def saidL : Pl → Nat → List Int
  | .mk op f n kids, F => (if (op = 2 ∨ op = 5) ∧ f = (F : Int) then [n] else []) ++ saidK kids F
  where
  saidK : List Pl → Nat → List Int
  | [], _ => []
  | p :: r, F => saidL p F ++ saidK r F
theorem mem_said : ∀ (p : Pl) (F : Nat) (x : Int), x ∈ saidL p F ↔ Says p (F : Int) x
  | .mk op f n kids, F, x => by
    rw [saidL, List.mem_append, Says, mem kids F x]
    refine or_congr ?_ Iff.rfl
    by_cases h : (op = 2 ∨ op = 5) ∧ f = (F : Int)
    · rw [if_pos h]
      simp only [List.mem_singleton]
      exact ⟨fun e => ⟨h.1, h.2, e.symm⟩, fun e => e.2.2.symm⟩
    · rw [if_neg h]
      exact ⟨fun e => absurd e (by simp), fun e => absurd ⟨e.1, e.2.1⟩ h⟩
  where
  mem : ∀ (k : List Pl) (F : Nat) (x : Int), x ∈ saidL.saidK k F ↔ Says.saysL k (F : Int) x
  | [], F, x => by rw [saidL.saidK, Says.saysL]; simp
  | p :: r, F, x => by rw [saidL.saidK, List.mem_append, Says.saysL, mem_said p F x, mem r F x]
theorem said_len : ∀ (p : Pl) (F : Nat), (saidL p F).length ≤ sizeP p
  | .mk op f n kids, F => by
    rw [saidL, List.length_append, sizeP_mk]
    have := len kids F
    split
    · simp only [List.length_singleton]; omega
    · simp only [List.length_nil]; omega
  where
  len : ∀ (k : List Pl) (F : Nat), (saidL.saidK k F).length ≤ sizeP.sizeL k
  | [], F => by rw [saidL.saidK]; simp
  | p :: r, F => by
    rw [saidL.saidK, List.length_append, sizeP.sizeL]
    have := said_len p F
    have := len r F
    omega
theorem saidK_step (F : Nat) : ∀ (kids : List Pl) (k : Nat) (h : k < kids.length), saidL.saidK (kids.take (k + 1)) F = saidL.saidK (kids.take k) F ++ saidL kids[k] F
  | p :: r, 0, h => by simp [saidL.saidK]
  | p :: r, k + 1, h => by
    have := saidK_step F r k (by simpa using h)
    rw [List.take_succ_cons, List.take_succ_cons, saidL.saidK, saidL.saidK, this, List.append_assoc]
    rfl
theorem saidK_len (F : Nat) (kids : List Pl) (k : Nat) : (saidL.saidK (kids.take k) F).length ≤ sizeP.sizeL kids := by
  refine Nat.le_trans (said_len.len _ F) (go kids k)
  where
  go : ∀ (kids : List Pl) (k : Nat), sizeP.sizeL (kids.take k) ≤ sizeP.sizeL kids
  | [], k => by simp
  | p :: r, 0 => by rw [List.take_zero, sizeP.sizeL]; omega
  | p :: r, k + 1 => by
    rw [List.take_succ_cons, sizeP.sizeL, sizeP.sizeL]
    have := go r k
    omega

theorem sizeL_cut : ∀ (kids : List Pl) (k : Nat) (h : k < kids.length), sizeP.sizeL (kids.take k) + sizeP kids[k] ≤ sizeP.sizeL kids
  | p :: r, 0, h => by
    rw [List.take_zero, sizeP.sizeL, sizeP.sizeL]
    show 0 + sizeP p ≤ _
    omega
  | p :: r, k + 1, h => by
    have := sizeL_cut r k (by simpa using h)
    rw [List.take_succ_cons, sizeP.sizeL, sizeP.sizeL]
    show _ + sizeP (r[k]'(by simpa using h)) ≤ _
    omega
/-- One more where a function says something. -/
def upd {α : Type} (F : Nat) (v : α) (s : Nat → α) : Nat → α := fun f => if f = F then v else s f
theorem own_keep {w w' : World} {lo e s n : Nat} {v : Value} {xs : List Value} (h : w.ownsRow lo e s v n xs) (hk : ∀ c, v.ownBlock = some c → w'.heap[c]? = w.heap[c]?) : w'.ownsRow lo e s v n xs := by
  refine ⟨h.1, ?_⟩
  rcases h.2 with hn | ⟨g, cap, cur, rfl, hg, hgg, rest⟩
  · exact .inl hn
  · exact .inr ⟨g, cap, cur, rfl, hg, (hk g rfl).trans hgg, rest⟩
/-- A book that is being filled. -/
structure BkS (lo g M : Nat) (sv : Nat → Value) (sl : Nat → List Int) (w : World) : Prop where
  glo : g < lo
  hi : lo ≤ w.heap.size
  row : w.heap[g]? = some (.cells (bcells sv (fun _ => 0) M) 101)
  own : ∀ f, f < 8 → w.ownsRow lo 24 1 (sv f) (sl f).length ((sl f).map (Value.int .u16))
  sep : ∀ f f' c, f < 8 → f' < 8 → f ≠ f' → (sv f).ownBlock = some c → (sv f').ownBlock ≠ some c
theorem BkS.below {lo g M : Nat} {sv : Nat → Value} {sl : Nat → List Int} {w w' : World} (h : BkS lo g M sv sl w) (hb : Below w.heap.size w w') : BkS lo g M sv sl w' :=
  ⟨h.glo, Nat.le_trans h.hi hb.size, (hb.block _ (heap_lt h.row)).trans h.row, fun f hf => own_below (h.own f hf) hb, h.sep⟩
theorem bcells_upd (sv : Nat → Value) (oc : Nat → Nat) (M F : Nat) (hF : F < 8) (v : Value) : (bcells sv oc M).setIfInBounds F v = bcells (upd F v sv) oc M := by
  have : F = 0 ∨ F = 1 ∨ F = 2 ∨ F = 3 ∨ F = 4 ∨ F = 5 ∨ F = 6 ∨ F = 7 := by omega
  rcases this with rfl | rfl | rfl | rfl | rfl | rfl | rfl | rfl <;> rfl
theorem bcells_get (sv : Nat → Value) (oc : Nat → Nat) (M F : Nat) (hF : F < 8) : (bcells sv oc M)[F]? = some (sv F) := by
  have : F = 0 ∨ F = 1 ∨ F = 2 ∨ F = 3 ∨ F = 4 ∨ F = 5 ∨ F = 6 ∨ F = 7 := by omega
  rcases this with rfl | rfl | rfl | rfl | rfl | rfl | rfl | rfl <;> rfl
theorem BkS.step {lo g M : Nat} {sv : Nat → Value} {sl : Nat → List Int} {w w4 : World} {F g4 cap4 : Nat} {n : Int} (h : BkS lo g M sv sl w) (hF : F < 8)
    (hown : w4.ownsRow lo 24 1 (.slice (some ⟨g4, 0, none⟩) ((sl F).length + 1) cap4) ((sl F).length + 1) ((sl F).map (Value.int .u16) ++ [.int .u16 n])) (hg : w.grownBy w4 (sv F).ownBlock) (hl : (sv F).ownBlock = some g4 ∨ w.heap.size ≤ g4) :
    BkS lo g M (upd F (.slice (some ⟨g4, 0, none⟩) ((sl F).length + 1) cap4) sv) (fun f => sl f ++ (if f = F then [n] else [])) (w4.setCell ⟨g, F, none⟩ (.slice (some ⟨g4, 0, none⟩) ((sl F).length + 1) cap4)) := by
  have hlo : ∀ f c, f < 8 → (sv f).ownBlock = some c → lo ≤ c ∧ c < w.heap.size := fun f c hf e => (h.own f hf).lt c e
  have hg4 : lo ≤ g4 := by
    rcases hown.2 with ⟨hv, _⟩ | ⟨c, cap, cur, hv, hc, _⟩
    · cases hv
    · simp only [Value.slice.injEq, Option.some.injEq, Addr.mk.injEq] at hv
      obtain ⟨⟨rfl, -⟩, -⟩ := hv
      exact hc
  have hgl := h.glo
  have hset : ∀ c, c ≠ g → (w4.setCell ⟨g, F, none⟩ (.slice (some ⟨g4, 0, none⟩) ((sl F).length + 1) cap4)).heap[c]? = w4.heap[c]? := fun c hc => heap_setCell_other _ _ _ _ hc
  refine ⟨hgl, by have := hg.size; have := h.hi; simp; omega, ?_, fun f hf => ?_, fun f f' c hf hf' hne e => ?_⟩
  · have h4 : w4.heap[g]? = some (.cells (bcells sv (fun _ => 0) M) 101) := grown_row hg h.row fun e => by have := hlo F g hF e.symm; omega
    have := heap_setCell_same w4 g F _ _ (.slice (some ⟨g4, 0, none⟩) ((sl F).length + 1) cap4) h4
    rw [bcells_upd _ _ _ _ hF] at this
    exact this
  · by_cases e : f = F
    · subst e
      unfold upd
      rw [if_pos rfl, if_pos rfl, List.length_append, List.map_append]
      refine own_keep hown fun c hc => hset c ?_
      have : c = g4 := by simpa [Value.ownBlock] using hc.symm
      omega
    · unfold upd
      rw [if_neg e, if_neg e, List.append_nil]
      refine own_keep (h.own f hf) fun c hc => ?_
      have h1 := hlo f c hf hc
      rw [hset c (by omega)]
      exact hg.block c h1.2 fun e2 => h.sep f F c hf hF e hc e2.symm
  · unfold upd at e ⊢
    by_cases e1 : f = F
    · rw [if_pos e1] at e
      have hc : c = g4 := by simpa [Value.ownBlock] using e.symm
      rw [if_neg (by omega)]
      intro e2
      rcases hl with k | k
      · exact h.sep f' F c hf' hF (by omega) e2 (by rw [hc]; exact k)
      · have := (hlo f' c hf' e2).2; omega
    · rw [if_neg e1] at e
      by_cases e2 : f' = F
      · rw [if_pos e2]
        intro e3
        have hc : c = g4 := by simpa [Value.ownBlock] using e3.symm
        rcases hl with k | k
        · exact h.sep f F c hf hF e1 e (by rw [hc]; exact k)
        · have := (hlo f c hf e).2; omega
      · rw [if_neg e2]
        exact h.sep f f' c hf hf' hne e
theorem app_below {w W w4 : World} {lo g F : Nat} {row : Option Nat} {v : Value} (hb : Below w.heap.size w W) (hgl : g < lo) (hg : W.grownBy w4 row) (hr : ∀ c, row = some c → lo ≤ c) (hgw : g ≤ w.heap.size) : Below g w (w4.setCell ⟨g, F, none⟩ v) := by
  have s1 := hb.size
  have s2 := hg.size
  refine ⟨hg.os.trans hb.os, hg.tape.trans hb.tape, hg.output.trans hb.output, by simp; omega, fun k hk => ?_⟩
  rw [heap_setCell_other _ _ _ _ (show k ≠ g by omega), hg.block k (by omega) (fun e => by have := hr k e.symm; omega)]
  exact hb.block k (by omega)
theorem ix98 (g F : Nat) (hF : F < 8) (w : World) : (Instr.indexAt 98 (.pointer (some ⟨g, 0, none⟩)) (.int .i64 (F : Int))).run Try.prog w = .ok (.pointer (some ⟨g, F, none⟩)) w := by
  have hu : Try.prog.underlying 98 = some (.array (Try.prog.arrayLen 98) (Try.prog.elem 98)) := by kernel_rfl
  have h8 : Try.prog.arrayLen 98 = 8 := by kernel_rfl
  have he : Try.prog.elem 98 = 23 := by kernel_rfl
  rw [run_indexAt_array (h := hu), h8, he, if_pos ⟨by omega, by omega⟩, Try.sizeOf23]
  simp [Result.andThen, Addr.add]
  omega
theorem ix25 (g F : Nat) (hF : F < 8) (w : World) : (Instr.indexAt 25 (.pointer (some ⟨g, 8, none⟩)) (.int .i64 (F : Int))).run Try.prog w = .ok (.pointer (some ⟨g, 8 + F, none⟩)) w := by
  have hu : Try.prog.underlying 25 = some (.array (Try.prog.arrayLen 25) (Try.prog.elem 25)) := by kernel_rfl
  have h8 : Try.prog.arrayLen 25 = 8 := by kernel_rfl
  have he : Try.prog.elem 25 = 24 := by kernel_rfl
  rw [run_indexAt_array (h := hu), h8, he, if_pos ⟨by omega, by omega⟩, Try.sizeOf24]
  simp [Result.andThen, Addr.add]
theorem info24 : (Try.prog.info? 24).map (fun i => (i.zero, i.size, i.bytes)) = some (some (.int .u16 0), 1, 2) := by kernel_rfl
/-- What hear leaves. -/
def HearEnd (lo g M : Nat) (sl : Nat → List Int) (T : Pl) (w : World) (e : Ending) (w' : World) : Prop :=
  e = .returned (.tuple #[]) ∧ ∃ sv, BkS lo g M sv (fun f => sl f ++ saidL T f) w' ∧ Below g w w'
end Go.Proofs.Ytipiepcbgjceaaa
