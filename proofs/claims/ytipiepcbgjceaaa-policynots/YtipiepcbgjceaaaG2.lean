/- What grow leaves: a tree of nodes, each in a block of its own; policies of up to 1000 nodes. -/
import Derived.Test.YtipiepcbgjceaaaG1
import Derived.Test.YtipiepcbgjceaaaK11
import Derived.Deep.AppendLies
import Derived.Deep.RegionLaw
set_option linter.unusedVariables false
set_option linter.unusedSimpArgs false
namespace Go.Proofs.Ytipiepcbgjceaaa
open Go.RowKit Go.Joins

theorem info59 : (Try.prog.info? 59).map (fun i => (i.zero, i.size, i.bytes)) = some (some (.pointer none), 1, 8) := by kernel_rfl
theorem row5 {w : World} {g : Nat} {t : TypeId} {x0 x1 x2 x3 x4 : Value} (hg : w.heap[g]? = some (.cells #[x0, x1, x2, x3, x4] t)) :
    w.cell? ⟨g, 0, none⟩ = some x0 ∧ w.cell? ⟨g, 1, none⟩ = some x1 ∧ w.cell? ⟨g, 2, none⟩ = some x2 ∧ w.cell? ⟨g, 3, none⟩ = some x3 ∧ w.cell? ⟨g, 4, none⟩ = some x4 := by
  have c := fun j => cell_of_row w g j _ _ _ hg
  exact ⟨by simpa using c 0, by simpa using c 1, by simpa using c 2, by simpa using c 3, by simpa using c 4⟩
theorem frz5 {w : World} {g : Nat} {t : TypeId} {cs : Array Value} (hg : w.heap[g]? = some (.cells cs t)) (o : Nat) : w.frozen? ⟨g, o, none⟩ = false := frozen_of_row w g o _ _ hg

theorem grown_row {w w' : World} {row : Option Nat} {g : Nat} {o : Obj} (hg : w.grownBy w' row) (h : w.heap[g]? = some o) (hne : some g ≠ row) : w'.heap[g]? = some o := (hg.block g (heap_lt h) hne).trans h
/-- Kids that lie from lo on, off one block. -/
def KidsA (lo : Nat) (av : Option Nat) (G : Nat → Option Pl) (w : World) (kv : Value) (kids : List Pl) : Prop :=
  ∃ sa sc, kv = .slice sa kids.length sc ∧ ∀ k (hk : k < kids.length), ∃ b off c, sa = some ⟨b, off, none⟩ ∧ lo ≤ b ∧ some b ≠ av ∧ b < w.heap.size ∧ isT 59 w.heap[b]? ∧ w.cell? ⟨b, off + k, none⟩ = some (.pointer (some ⟨c, 0, none⟩)) ∧ G c = some kids[k]
/-- Nodes without books, from lo on, off one block. -/
def FreshG (lo : Nat) (av : Option Nat) (G : Nat → Option Pl) (w : World) : Prop :=
  ∀ b op f n kids, G b = some (.mk op f n kids) → lo ≤ b ∧ some b ≠ av ∧ ∃ kv, w.heap[b]? = some (nobjN op f n kv none) ∧ KidsA lo av G w kv kids
theorem KidsA.keep {lo lo' : Nat} {av av' : Option Nat} {G G' : Nat → Option Pl} {w w' : World} {kv : Value} {kids : List Pl} (h : KidsA lo av G w kv kids) (hs : w.heap.size ≤ w'.heap.size) (hG : ∀ c t, G c = some t → G' c = some t)
    (hk : ∀ b, lo ≤ b → some b ≠ av → b < w.heap.size → w'.heap[b]? = w.heap[b]? ∧ lo' ≤ b ∧ some b ≠ av') : KidsA lo' av' G' w' kv kids := by
  obtain ⟨sa, sc, h1, h2⟩ := h
  refine ⟨sa, sc, h1, fun k hkl => ?_⟩
  obtain ⟨b, off, c, e1, e2, e3, e4, e5, e6, e7⟩ := h2 k hkl
  obtain ⟨k1, k2, k3⟩ := hk b e2 e3 e4
  exact ⟨b, off, c, e1, k2, k3, Nat.lt_of_lt_of_le e4 hs, by rw [k1]; exact e5, by rw [World.cell?_of_block (w := w) (w' := w') k1]; exact e6, hG _ _ e7⟩
theorem FreshG.keep {lo lo' : Nat} {av av' : Option Nat} {G G' : Nat → Option Pl} {w w' : World} (h : FreshG lo av G w) (hs : w.heap.size ≤ w'.heap.size) (hG : ∀ c t, G c = some t → G' c = some t)
    (hk : ∀ b, lo ≤ b → some b ≠ av → b < w.heap.size → w'.heap[b]? = w.heap[b]? ∧ lo' ≤ b ∧ some b ≠ av') (b : Nat) (op f n : Int) (kids : List Pl) (hb : G b = some (.mk op f n kids)) :
    lo' ≤ b ∧ some b ≠ av' ∧ ∃ kv, w'.heap[b]? = some (nobjN op f n kv none) ∧ KidsA lo' av' G' w' kv kids := by
  obtain ⟨h1, h2, kv, h3, h4⟩ := h b op f n kids hb
  obtain ⟨k1, k2, k3⟩ := hk b h1 h2 (heap_lt h3)
  exact ⟨k2, k3, kv, k1.trans h3, h4.keep hs hG hk⟩
/-- Two lots of nodes together. -/
def both (G1 G : Nat → Option Pl) (c : Nat) : Option Pl := match G1 c with
  | some t => some t
  | none => G c
theorem both_left {G1 G : Nat → Option Pl} {c : Nat} {t : Pl} (h : G1 c = some t) : both G1 G c = some t := by unfold both; rw [h]
theorem both_right {G1 G : Nat → Option Pl} {c : Nat} {t : Pl} (h : G c = some t) (h1 : G1 c = none) : both G1 G c = some t := by unfold both; rw [h1]; exact h
theorem both_or {G1 G : Nat → Option Pl} {c : Nat} {t : Pl} (h : both G1 G c = some t) : G1 c = some t ∨ (G1 c = none ∧ G c = some t) := by
  unfold both at h
  cases e : G1 c with
  | some u => rw [e] at h; exact .inl h
  | none => rw [e] at h; exact .inr ⟨rfl, h⟩
/-- Where the loop over the kids is. -/
structure GrowSt (w : World) (op f n : Int) (pv : Value) (kids : List Pl) (k : Nat) (kv : Value) (xs : List Value) (G : Nat → Option Pl) (wr : World) : Prop where
  bel : Below w.heap.size w wr
  siz : w.heap.size + 2 ≤ wr.heap.size
  row : wr.heap[w.heap.size + 1]? = some (nobjN op f n kv none)
  own : wr.ownsRow (w.heap.size + 2) 59 1 kv k xs
  ptr : xs.length = k ∧ ∀ j (hj : j < kids.length), j < k → ∃ c, xs[j]? = some (.pointer (some ⟨c, 0, none⟩)) ∧ G c = some kids[j]
  fresh : FreshG (w.heap.size + 2) kv.ownBlock G wr
  dom : ∀ c T, G c = some T → c < wr.heap.size ∧ (∃ i, ∃ h : i < kids.length, GoodT kids[i] → GoodT T)
/-- What grow answers. -/
def GrowEnd (T : Pl) (w : World) (e : Ending) (w' : World) : Prop :=
  ∃ c G, e = .returned (.pointer (some ⟨c, 0, none⟩)) ∧ Below w.heap.size w w' ∧ G c = some T ∧ FreshG w.heap.size none G w' ∧ ∀ b T', G b = some T' → b < w'.heap.size ∧ (GoodT T → GoodT T')
theorem GrowSt.below {w : World} {op f n : Int} {pv : Value} {kids : List Pl} {k : Nat} {kv : Value} {xs : List Value} {G : Nat → Option Pl} {wr w' : World} (h : GrowSt w op f n pv kids k kv xs G wr) (hb : Below wr.heap.size wr w') : GrowSt w op f n pv kids k kv xs G w' where
  bel := h.bel.trans (hb.mono h.bel.size)
  siz := Nat.le_trans h.siz hb.size
  row := (hb.block _ (heap_lt h.row)).trans h.row
  own := own_below h.own hb
  ptr := h.ptr
  fresh := fun b op f n kids hG => h.fresh.keep hb.size (fun _ _ h => h) (fun b h1 h2 h3 => ⟨hb.block b h3, h1, h2⟩) b op f n kids hG
  dom := fun c T hc => ⟨Nat.lt_of_lt_of_le (h.dom c T hc).1 hb.size, (h.dom c T hc).2⟩
/-- A kid more. -/
theorem GrowSt.step {w : World} {op f n : Int} {pv : Value} {kids : List Pl} {k : Nat} {kv : Value} {xs : List Value} {G : Nat → Option Pl} {wa w1 w2 w3 : World} {c : Nat} {G1 : Nat → Option Pl} {v' : Value} {H : Nat} (h : GrowSt w op f n pv kids k kv xs G wa) (hk : k < kids.length)
    (hb1 : Below wa.heap.size wa w1) (hc : G1 c = some kids[k]) (hf : FreshG wa.heap.size none G1 w1) (hd : ∀ b T', G1 b = some T' → b < w1.heap.size ∧ (GoodT kids[k] → GoodT T'))
    (hb2 : Below w1.heap.size w1 w2) (hown : w3.ownsRow (w.heap.size + 2) 59 1 v' (k + 1) (xs ++ [.pointer (some ⟨c, 0, none⟩)])) (hg : w2.grownBy w3 kv.ownBlock) (hl : kv.ownBlock = v'.ownBlock ∨ v'.ownBlock = some H) (hH : w1.heap.size ≤ H) :
    GrowSt w op f n pv kids (k + 1) v' (xs ++ [.pointer (some ⟨c, 0, none⟩)]) (both G1 G) (w3.setCell ⟨w.heap.size + 1, 3, none⟩ v') := by
  have h12 := hb1.trans (hb2.mono hb1.size)
  have ha := h.below h12
  have s3 := hg.size
  have s12 := h12.size
  have sz := h.siz
  have hav : ∀ b, some b = kv.ownBlock → w.heap.size + 2 ≤ b ∧ b < wa.heap.size := fun b e => h.own.lt b e.symm
  have hset : ∀ b, b ≠ w.heap.size + 1 → (w3.setCell ⟨w.heap.size + 1, 3, none⟩ v').heap[b]? = w3.heap[b]? := fun b hb => heap_setCell_other _ _ _ _ hb
  have hss : (w3.setCell ⟨w.heap.size + 1, 3, none⟩ v').heap.size = w3.heap.size := by simp [World.setCell]
  have hG1no : ∀ b T', G1 b = some T' → wa.heap.size ≤ b := fun b T' e => by cases T' with | mk o f n k => exact (hf b o f n k e).1
  have hGno : ∀ b T', G b = some T' → G1 b = none := fun b T' e => by
    cases e1 : G1 b with
    | none => rfl
    | some t => have := hG1no b t e1; have := (h.dom b T' e).1; omega
  have keepA : ∀ b, w.heap.size + 2 ≤ b → some b ≠ kv.ownBlock → b < w2.heap.size → (w3.setCell ⟨w.heap.size + 1, 3, none⟩ v').heap[b]? = w2.heap[b]? := fun b h1 h2 h3 => (hset b (by omega)).trans (hg.block b h3 h2)
  have av' : ∀ b, b < w1.heap.size → some b ≠ kv.ownBlock → some b ≠ v'.ownBlock := fun b h1 h2 h3 => by
    rcases hl with e | e
    · rw [← e] at h3; exact h2 h3
    · rw [e] at h3; injection h3 with h3; omega
  refine ⟨?_, ?_, ?_, ?_, ?_, ?_, ?_⟩
  · refine Below.setCell (Below.grown ha.bel hg (by omega) fun b e => ?_) (by show w.heap.size ≤ w.heap.size + 1; omega) _
    have := hav b e.symm; omega
  · rw [hss]; omega
  · have hr := ha.row
    have hr3 : w3.heap[w.heap.size + 1]? = some (nobjN op f n kv none) := (hg.block _ (heap_lt hr) (fun e => by have := hav _ e; omega)).trans hr
    have := heap_setCell_same w3 (w.heap.size + 1) 3 _ _ v' hr3
    simpa using this
  · refine ⟨hown.1, ?_⟩
    rcases hown.2 with hn | ⟨g, cap, cur, hv, hgl, hgg, rest⟩
    · exact .inl hn
    · exact .inr ⟨g, cap, cur, hv, hgl, (hset g (by omega)).trans hgg, rest⟩
  · refine ⟨by simp [h.ptr.1], fun j hj hjk => ?_⟩
    by_cases e : j < k
    · obtain ⟨c', e1, e2⟩ := h.ptr.2 j hj e
      exact ⟨c', by rw [List.getElem?_append_left (by rw [h.ptr.1]; exact e)]; exact e1, both_right e2 (hGno _ _ e2)⟩
    · have : j = k := by omega
      subst this
      exact ⟨c, by rw [List.getElem?_append_right (by rw [h.ptr.1]; exact Nat.le_refl _), h.ptr.1]; simp, both_left hc⟩
  · intro b op' f' n' kids' hG
    rcases both_or hG with e | ⟨e0, e⟩
    · refine hf.keep (G' := both G1 G) (by rw [hss]; have := hb2.size; omega) (fun c t hc => both_left hc) (fun b h1 h2 h3 => ?_) b op' f' n' kids' e
      have hne : some b ≠ kv.ownBlock := fun e => by have := hav b e; omega
      exact ⟨(keepA b (by omega) hne (Nat.lt_of_lt_of_le h3 hb2.size)).trans (hb2.block b h3), by omega, av' b h3 hne⟩
    · refine h.fresh.keep (G' := both G1 G) (by rw [hss]; omega) (fun c t hc => both_right hc (hGno _ _ hc)) (fun b h1 h2 h3 => ?_) b op' f' n' kids' e
      have hb1s := hb1.size
      exact ⟨(keepA b h1 h2 (by omega)).trans (h12.block b h3), h1, av' b (by omega) h2⟩
  · intro b T hG
    rw [hss]
    rcases both_or hG with e | ⟨e0, e⟩
    · have := hd b T e
      exact ⟨by have := hb2.size; omega, k, hk, this.2⟩
    · have := h.dom b T e
      exact ⟨by omega, this.2⟩
/-- The end of it. -/
theorem GrowSt.done {w : World} {op f n : Int} {pv : Value} {kids : List Pl} {kv : Value} {xs : List Value} {G : Nat → Option Pl} {wr : World} (h : GrowSt w op f n pv kids kids.length kv xs G wr) : GrowEnd (.mk op f n kids) w (.returned (.pointer (some ⟨w.heap.size + 1, 0, none⟩))) wr := by
  have hno : G (w.heap.size + 1) = none := by
    cases e : G (w.heap.size + 1) with
    | none => rfl
    | some t => cases t with | mk o f n k => have := (h.fresh _ o f n k e).1; omega
  have hset : ∀ c t, G c = some t → (if c = w.heap.size + 1 then some (Pl.mk op f n kids) else G c) = some t := fun c t hc => by
    split
    · rename_i e; rw [e, hno] at hc; cases hc
    · exact hc
  refine ⟨w.heap.size + 1, fun c => if c = w.heap.size + 1 then some (.mk op f n kids) else G c, rfl, h.bel, if_pos rfl, fun b op' f' n' kids' hb => ?_, fun b T hb => ?_⟩
  · dsimp only at hb
    by_cases e : b = w.heap.size + 1
    · subst e
      rw [if_pos rfl] at hb
      injection hb with hb
      injection hb with e1 e2 e3 e4
      subst e1 e2 e3 e4
      refine ⟨by omega, by simp, kv, h.row, ?_⟩
      rcases h.own.2 with ⟨hv, hn⟩ | ⟨g, cap, cur, hv, hB, hgg, hcap, hmax, hsz, htk⟩
      · exact ⟨none, 0, by rw [hn]; exact hv, fun k hk => by omega⟩
      · refine ⟨_, cap, hv, fun k hk => ?_⟩
        obtain ⟨c, hc1, hc2⟩ := h.ptr.2 k hk hk
        refine ⟨g, 0, c, rfl, by omega, by simp, heap_lt hgg, ⟨_, _, hgg⟩, ?_, hset _ _ hc2⟩
        rw [cell_of_row _ _ _ _ _ _ hgg]
        rw [← htk, List.getElem?_take_of_lt (by omega), Array.getElem?_toList] at hc1
        rw [show 0 + k = k by omega]
        exact hc1
    · rw [if_neg e] at hb
      exact h.fresh.keep (Nat.le_refl _) hset (fun b h1 h2 h3 => ⟨rfl, by omega, by simp⟩) b op' f' n' kids' hb
  · dsimp only at hb
    by_cases e : b = w.heap.size + 1
    · subst e
      rw [if_pos rfl] at hb
      injection hb with hb
      subst hb
      exact ⟨heap_lt h.row, fun h => h⟩
    · rw [if_neg e] at hb
      obtain ⟨h1, i, hi, h2⟩ := h.dom b T hb
      exact ⟨h1, fun hg => h2 (hg.kid i hi)⟩

/-- A policy that was grown is one that works. -/
theorem inv_fresh {B : Nat} {G : Nat → Option Pl} {X : Nat → Prop} {w : World} (h : FreshG B none G w) (hB : B ≤ w.heap.size) : Inv B G X w := by
  refine ⟨hB, fun _ => 0, fun b op f n kids hb => ?_⟩
  obtain ⟨h1, h2, kv, h3, sa, sc, h4, h5⟩ := h b op f n kids hb
  refine ⟨h1, kv, none, h3, ⟨sa, sc, h4, fun k hk => ?_⟩, fun a e => by cases e⟩
  obtain ⟨b', off, c, e1, e2, e3, e4, e5, e6, e7⟩ := h5 k hk
  exact ⟨b', off, c, e1, e4, e5, e6, e7⟩

set_option maxRecDepth 100000 in
set_option maxHeartbeats 8000000 in
theorem grow_any {P : Nat → Prop} : ∀ (m : Nat) (T : Pl) (x : Nd) (w : World), sizeP T ≤ m → m ≤ 1000 → PolAt P w T x → Calls Try.prog 24 #[nv x] w fun e w' => GrowEnd T w e w'
  | 0, T, x, w, h, _, _ => absurd (size_pos T) (by omega)
  | m + 1, .mk op f n kids, x, w, hs, hm, hp => by
    obtain ⟨i0, hi, hz0, hz1, hz2⟩ := info_parts info59
    obtain ⟨sa, sc, rfl, hk⟩ := hp.open
    have ih := fun T x w h => grow_any (P := P) m T x w h (by omega)
    rw [sizeP_mk] at hs
    have hl := len_le kids
    have HK : Hid _ := hk
    have IH : Hid _ := ih
    clear hk ih hp
    have HS0 : Hid (GrowSt w op f n (.slice sa kids.length sc) kids 0 (.slice none 0 0) [] (fun _ => none) ((w.alloc (pobj ⟨op, f, n, .slice sa kids.length sc⟩)).alloc (nobjN op f n (.slice none 0 0) none))) := by
      refine ⟨((Below.refl _ w).alloc (Nat.le_refl _) _).alloc (by simp) _, by simp, ?_, World.ownsRow_nil _ _ _ _, ⟨rfl, fun j _ h => by omega⟩, fun b o f n k h => (by cases h), fun c T h => (by cases h)⟩
      exact heap_alloc2_new w _ _
    obtain ⟨R, eR⟩ : ∃ R, kids.length = R := ⟨_, rfl⟩
    have HER : Hid (kids.length = R) := eR
    rw [eR] at HS0 ⊢
    go_enter Try.func24, Try.ntmps24
    go_wp2_with fail
    go_loopw [17] (fun i wr => ∃ (k : Nat) (kv : Value) (xs : List Value) (G : Nat → Option Pl), k ≤ R ∧ i = .int .i64 (k : Int) ∧ Hid (GrowSt w op f n (.slice sa R sc) kids k kv xs G wr)) (fun i _ => R - (intOf i).toNat)
    case atStart => exact ⟨0, _, _, _, Nat.zero_le _, rfl, HS0⟩
    case round =>
      clear HS0
      obtain ⟨k, kv, xs, G, hkl, rfl, HS⟩ := hrel
      have hsiz := HS.out.siz
      by_cases hlt : k < R
      · have hlt' : k < kids.length := by rw [HER.out]; exact hlt
        obtain ⟨b, off, sa2, n2, sc2, y0, y1, y2, rfl, hb, ha, hp⟩ := HK.out k hlt'
        obtain ⟨a0, a1, a2, a3⟩ := ha.same (HS.out.bel.block b hb)
        have hsz := size_get kids k hlt'
        obtain ⟨WA, hWA⟩ : ∃ WA, WA = wr.alloc (pobj ⟨y0, y1, y2, .slice sa2 n2 sc2⟩) := ⟨_, rfl⟩
        have hba : Below wr.heap.size wr WA := by rw [hWA]; exact (Below.refl _ _).alloc (Nat.le_refl _) _
        have HSA : Hid (GrowSt w op f n (.slice (some ⟨b, off, none⟩) R sc) kids k kv xs G WA) := HS.out.below hba
        have hcell : WA.heap[wr.heap.size]? = some (pobj ⟨y0, y1, y2, .slice sa2 n2 sc2⟩) := by rw [hWA]; exact heap_alloc_new _ _
        obtain ⟨q0, q1, q2, q3⟩ := row4 hcell
        have cS : Hid (∀ W, Below WA.heap.size WA W → Calls Try.prog 24 #[nv ⟨y0, y1, y2, .slice sa2 n2 sc2⟩] W fun e w' => GrowEnd kids[k] W e w') := fun W hW => IH.out kids[k] ⟨y0, y1, y2, .slice sa2 n2 sc2⟩ W (by omega) (((hp.below HS.out.bel).below hba).below hW)
        obtain ⟨r0, r1, r2, r3, r4⟩ := row5 HSA.out.row
        have f3 := frz5 HSA.out.row 3
        have HBd : Hid (Below WA.heap.size WA WA.drew) := below_drewN (Below.refl _ WA) 1
        obtain ⟨kb, kn, kc, rfl⟩ : ∃ kb kn kc, kv = .slice kb kn kc := by
          obtain ⟨u, v, e⟩ := own_shape HSA.out.own
          exact ⟨_, _, _, e⟩
        clear hp ha hsz hba hcell
        go_wp2_with fail
        rw [← hWA]
        clear hWA a0 a1 a2 a3
        have hnew : ∀ (W : World) (c : Nat), ∀ j u, [Value.pointer (some ⟨c, 0, none⟩)][j]? = some u → (W.alloc (.cells #[.pointer (some ⟨c, 0, none⟩)] 59)).cell? ((⟨W.heap.size, 0, none⟩ : Addr).add j) = some u := fun W c => cell_one_new W _ _
        have HNew : Hid _ := hnew
        have hrl := heap_lt HSA.out.row
        have HRow : Hid _ := HSA.out.row
        have hol : Hid (∀ b, some b = (Value.slice kb kn kc).ownBlock → w.heap.size + 2 ≤ b) := fun b e => (HSA.out.own.lt b e.symm).1
        clear hnew
        go_region_law (first
          | (refine step_append_lies _ (by rfl) _ _ _ (by rfl) (w.heap.size + 2) 59 i0 (.pointer none) 1 8 Try.underlying70 hi hz0 hz1 hz2 rfl (by decide) (.slice kb kn kc) k xs (by rfl) (hown2.alloc _) ⟨w2.heap.size, 0, none⟩ 1 1 [.pointer (some ⟨cc, 0, none⟩)] (by rfl) rfl (HNew.out w2 cc) (fun x hx => by simp at hx; rw [hx]; rfl) (by decide) (by unfold maxLen; omega) (by omega) (by simp; omega) (w2.heap.size + 1) (by simp) ?_; intro g4 cap4 w4 hown4 hgrow4 hloc4 hlt4; have hrow4 := grown_row hgrow4 hrow3 (fun e => by have := hol.out _ e; omega); have f4 := frz5 hrow4 3; obtain ⟨t0, t1, t2, t3, t4⟩ := row5 hrow4)
          | (go_simp; go_at_call 24; refine Calls.mono (cS.out _ HBd.out) ?_; rintro e w2 ⟨cc, G1, rfl, hb2, hc2, hf2, hd2⟩; have HB2 : Hid (Below WA.heap.size WA w2) := HBd.out.trans (hb2.mono HBd.out.size); have hw2 := HB2.out.size; have hrow2 := (HB2.out.block _ hrl).trans HRow.out; have hrow3 : ((w2.alloc (.cells #[.pointer (some ⟨cc, 0, none⟩)] 59)).heap[w.heap.size + 1]? = some (nobjN op f n (.slice kb kn kc) none)) := (Below.heap_alloc w2 (.cells #[.pointer (some ⟨cc, 0, none⟩)] 59) _ (heap_lt hrow2)).trans hrow2; obtain ⟨s0, s1, s2, s3, s4⟩ := row5 hrow2; obtain ⟨z0, z1, z2, z3, z4⟩ := row5 hrow3; have hown2 := own_below HSA.out.own HB2.out))
        all_goals
          have HS4 : Hid (GrowSt w op f n (.slice (some ⟨b, off, none⟩) R sc) kids (k + 1) (.slice (some ⟨g4, 0, none⟩) (k + 1) cap4) (xs ++ [.pointer (some ⟨cc, 0, none⟩)]) (both G1 G) (w4.setCell ⟨w.heap.size + 1, 3, none⟩ (.slice (some ⟨g4, 0, none⟩) (k + 1) cap4))) :=
            GrowSt.step (w1 := w2) (w2 := w2.alloc (.cells #[.pointer (some ⟨cc, 0, none⟩)] 59)) (H := w2.heap.size + 1) (HSA.out.below HBd.out) hlt' hb2 hc2 hf2 hd2 ((Below.refl _ w2).alloc (Nat.le_refl _) _) hown4 hgrow4 (by rcases hloc4 with e | e; exact .inl (by rw [e]; rfl); exact .inr (by rw [e]; rfl)) (by omega)
          clear hb2 hc2 hf2 hd2 hown4 hgrow4 hloc4 hlt4 hrow4 f4 t0 t1 t2 t3 t4 s0 s1 s2 s3 s4 z0 z1 z2 z3 z4 hown2 hrow2 hrow3 HB2 cS q0 q1 q2 q3 r0 r1 r2 r3 r4 f3
          go_wp2
          go_roundw
          case rel => exact ⟨k + 1, _, _, _, by omega, by go_num, HS4⟩
          case measure => simp [intOf]; omega
      · obtain rfl : k = R := by omega
        have hE : Hid (GrowEnd (.mk op f n kids) w (.returned (.pointer (some ⟨w.heap.size + 1, 0, none⟩))) wr) := GrowSt.done (by rw [HER.out]; exact HS.out)
        clear HS
        go_wp2
        go_ret
        exact hE.out
end Go.Proofs.Ytipiepcbgjceaaa
