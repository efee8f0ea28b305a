/- How a grown policy lies in memory, with the books that its nodes may have, and what stays while it works; no conditions. -/
import Derived.Test.YtipiepcbgjceaaaS6
import Derived.Test.YtipiepcbgjceaaaL3
import Derived.Maps.OwnSet
import Derived.DeepKeys4
import Derived.WideKeyArgs
set_option linter.unusedVariables false
set_option linter.unusedSimpArgs false
namespace Go.Proofs.Ytipiepcbgjceaaa
open Go.RowKit Go.Joins Go.Maps

/-! ### What stays: all blocks but nodes and maps, and whatever is older than the policy -/
def calm : Option Obj → Bool
  | some (.cells _ t _) => t != 73
  | some (.map _ _) => false
  | _ => true
structure Fr (B : Nat) (w w' : World) : Prop where
  os : w'.os = w.os
  tape : w'.tape = w.tape
  output : w'.output = w.output
  size : w.heap.size ≤ w'.heap.size
  low : ∀ k, k < w.heap.size → k < B → w'.heap[k]? = w.heap[k]?
  calm : ∀ k, k < w.heap.size → calm w.heap[k]? = true → w'.heap[k]? = w.heap[k]?
theorem Fr.refl (B : Nat) (w : World) : Fr B w w := ⟨rfl, rfl, rfl, Nat.le_refl _, fun _ _ _ => rfl, fun _ _ _ => rfl⟩
theorem Fr.trans {B : Nat} {a b c : World} (h : Fr B a b) (k : Fr B b c) : Fr B a c :=
  ⟨k.os.trans h.os, k.tape.trans h.tape, k.output.trans h.output, Nat.le_trans h.size k.size,
    fun i hi hB => (k.low i (Nat.lt_of_lt_of_le hi h.size) hB).trans (h.low i hi hB),
    fun i hi hc => (k.calm i (Nat.lt_of_lt_of_le hi h.size) (by rw [h.calm i hi hc]; exact hc)).trans (h.calm i hi hc)⟩
theorem Fr.of_below {B : Nat} {w w' : World} (h : Below w.heap.size w w') : Fr B w w' := ⟨h.os, h.tape, h.output, h.size, fun k hk _ => h.block k hk, fun k hk _ => h.block k hk⟩
theorem Fr.below {B : Nat} {w w' : World} (h : Fr B w w') (hB : B ≤ w.heap.size) : Below B w w' := ⟨h.os, h.tape, h.output, h.size, fun k hk => h.low k (by omega) hk⟩
/-- Behind a call what was new in it may have turned. -/
theorem Fr.since {B C : Nat} {a b c : World} (h : Fr B a b) (k : Below C b c) (hC : a.heap.size ≤ C) : Fr B a c :=
  ⟨k.os.trans h.os, k.tape.trans h.tape, k.output.trans h.output, Nat.le_trans h.size k.size,
    fun i hi hB => (k.block i (by omega)).trans (h.low i hi hB), fun i hi hc => (k.block i (by omega)).trans (h.calm i hi hc)⟩
theorem Fr.drewN {B : Nat} {a w : World} (h : Fr B a w) (n : Nat) : Fr B a (w.drewN n) := h.trans (Fr.of_below (below_drewN (Below.refl _ w) n))
theorem Fr.alloc {B : Nat} {a w : World} (h : Fr B a w) (o : Obj) : Fr B a (w.alloc o) := h.trans (Fr.of_below ((Below.refl _ w).alloc (Nat.le_refl _) _))

/-! ### Lists of packets; none of them is nil -/
def Pv (w : World) (v : Value) (L : List P8) : Prop :=
  (L = [] ∧ v = .slice none 0 0) ∨ (L ≠ [] ∧ ∃ b off cap, v = .slice (some ⟨b, off, none⟩) L.length cap ∧ b < w.heap.size ∧ calm w.heap[b]? = true ∧ ∀ i (h : i < L.length), At8 w b (off + i * 8) L[i])
theorem Pv.nil (w : World) : Pv w (.slice none 0 0) [] := .inl ⟨rfl, rfl⟩
theorem Pv.pks {w : World} {v : Value} {L : List P8} (h : Pv w v L) : Pks w v L := by
  rcases h with ⟨h1, h2⟩ | ⟨h1, b, off, cap, h2, h3, h4, h5⟩
  · exact .inr ⟨h1, none, 0, h2⟩
  · exact .inl ⟨b, off, cap, h2, h3, h5⟩
theorem Pv.fr {B : Nat} {w w' : World} {v : Value} {L : List P8} (h : Pv w v L) (hf : Fr B w w') : Pv w' v L := by
  rcases h with h | ⟨h1, b, off, cap, h2, h3, h4, h5⟩
  · exact .inl h
  · have e := hf.calm b h3 h4
    refine .inr ⟨h1, b, off, cap, h2, Nat.lt_of_lt_of_le h3 hf.size, by rw [e]; exact h4, fun i hi => At8.of fun j hj => ?_⟩
    rw [World.cell?_of_block (w := w) (w' := w') e]
    exact (h5 i hi).cell j hj
theorem Pv.below {w w' : World} {v : Value} {L : List P8} (h : Pv w v L) (hb : Below w.heap.size w w') : Pv w' v L := h.fr (B := 0) (Fr.of_below hb)
theorem Pv.shape {w : World} {v : Value} {L : List P8} (h : Pv w v L) : ∃ sa sc, v = .slice sa L.length sc ∧ ∀ k (hk : k < L.length), ∃ b off, sa = some ⟨b, off, none⟩ ∧ b < w.heap.size ∧ calm w.heap[b]? = true ∧ At8 w b (off + k * 8) L[k] := by
  rcases h with ⟨h1, h2⟩ | ⟨h1, b, off, cap, h2, h3, h4, h5⟩
  · subst h1
    exact ⟨none, 0, h2, fun k hk => by simp at hk⟩
  · exact ⟨_, _, h2, fun k hk => ⟨b, off, rfl, h3, h4, h5 k hk⟩⟩
theorem calm_cells {w : World} {b : Nat} {cs : Array Value} {t : TypeId} {fz : Nat × Nat} (h : w.heap[b]? = some (.cells cs t fz)) (ht : t ≠ 73) : calm w.heap[b]? = true := by
  rw [h]; simp [calm, ht]
/-- A block of cells of a type. -/
def isT (t : TypeId) (o : Option Obj) : Prop := ∃ cs fz, o = some (.cells cs t fz)
theorem isT.calm {t : TypeId} {o : Option Obj} (h : isT t o) (ht : t ≠ 73) : calm o = true := by
  obtain ⟨cs, fz, rfl⟩ := h
  simp [Go.Proofs.Ytipiepcbgjceaaa.calm, ht]
theorem isT.ne {t u : TypeId} {w : World} {a b : Nat} (h : isT t w.heap[a]?) (k : isT u w.heap[b]?) (hne : t ≠ u) : a ≠ b := fun e => by
  subst e
  obtain ⟨cs, fz, e1⟩ := h
  obtain ⟨cs', fz', e2⟩ := k
  rw [e1] at e2
  injection e2 with e2
  injection e2 with _ e2 _
  exact hne e2
/-- The block behind a value is none of these. -/
def Off (X : Nat → Prop) (v : Value) : Prop := ∀ b o n c, v = .slice (some ⟨b, o, none⟩) n c → ¬ X b
theorem Off.nil (X : Nat → Prop) : Off X (.slice none 0 0) := fun b o n c e => by cases e
/-- A row of the call's own, nil where it is empty. -/
structure OwnP (w : World) (lo : Nat) (v : Value) (L : List P8) : Prop where
  own : w.ownsRow lo 26 8 v L.length (flat8 L)
  nil : L = [] → v = .slice none 0 0
theorem OwnP.none (w : World) (lo : Nat) : OwnP w lo (.slice none 0 0) [] := ⟨World.ownsRow_nil _ _ _ _, fun _ => rfl⟩
theorem OwnP.pv {w : World} {lo : Nat} {v : Value} {L : List P8} (h : OwnP w lo v L) : Pv w v L := by
  by_cases hL : L = []
  · exact .inl ⟨hL, h.nil hL⟩
  · rcases h.own.2 with ⟨hv, hn⟩ | ⟨g, cap, cur, hv, hB, hgg, hcap, hmax, hsz, htk⟩
    · exact absurd (List.length_eq_zero_iff.1 hn) hL
    · exact .inr ⟨hL, g, 0, cap, hv, heap_lt hgg, calm_cells hgg (by decide), own_at (B := lo) (cap := cap) hgg rfl htk⟩
theorem own_fr {B : Nat} {w w' : World} {lo e size n : Nat} {v : Value} {xs : List Value} (h : w.ownsRow lo e size v n xs) (hf : Fr B w w') (he : e ≠ 73) : w'.ownsRow lo e size v n xs := by
  refine ⟨h.1, ?_⟩
  rcases h.2 with hn | ⟨g, cap, cur, rfl, hg, hgg, rest⟩
  · exact .inl hn
  · exact .inr ⟨g, cap, cur, rfl, hg, by rw [hf.calm g (heap_lt hgg) (calm_cells hgg he)]; exact hgg, rest⟩
theorem OwnP.fr {B : Nat} {w w' : World} {lo : Nat} {v : Value} {L : List P8} (h : OwnP w lo v L) (hf : Fr B w w') : OwnP w' lo v L := ⟨own_fr h.own hf (by decide), h.nil⟩
theorem OwnP.mono {w : World} {lo lo' : Nat} {v : Value} {L : List P8} (h : OwnP w lo v L) (hl : lo' ≤ lo) : OwnP w lo' v L := by
  refine ⟨⟨h.own.1, ?_⟩, h.nil⟩
  rcases h.own.2 with hn | ⟨g, cap, cur, hv, hg, rest⟩
  · exact .inl hn
  · exact .inr ⟨g, cap, cur, hv, Nat.le_trans hl hg, rest⟩

/-! ### The nodes -/
/-- The numbers that a policy's tests and puts say of a field. -/
def Says : Pl → Int → Int → Prop
  | .mk op f n kids, F, N => ((op = 2 ∨ op = 5) ∧ f = F ∧ n = N) ∨ saysL kids F N
  where
  saysL : List Pl → Int → Int → Prop
  | [], _, _ => False
  | p :: r, F, N => Says p F N ∨ saysL r F N
/-- Numbers behind a slice, in a block that stays. -/
def NumV (w : World) (v : Value) (l : List Nat) : Prop :=
  ∃ sa sc, v = .slice sa l.length sc ∧ ∀ k (hk : k < l.length), ∃ b off, sa = some ⟨b, off, none⟩ ∧ b < w.heap.size ∧ isT 24 w.heap[b]? ∧ w.cell? ⟨b, off + k, none⟩ = some (.int .u16 (l[k] : Int))
theorem NumV.keep {w w' : World} {v : Value} {l : List Nat} (h : NumV w v l) (hs : w.heap.size ≤ w'.heap.size) (hk : ∀ b, isT 24 w.heap[b]? → b < w.heap.size → w'.heap[b]? = w.heap[b]?) : NumV w' v l := by
  obtain ⟨sa, sc, h1, h2⟩ := h
  refine ⟨sa, sc, h1, fun k hk' => ?_⟩
  obtain ⟨b, off, e1, e2, e3, e4⟩ := h2 k hk'
  have e := hk b e3 e2
  exact ⟨b, off, e1, Nat.lt_of_lt_of_le e2 hs, by rw [e]; exact e3, by rw [World.cell?_of_block (w := w) (w' := w') e]; exact e4⟩
theorem NumV.fr {B : Nat} {w w' : World} {v : Value} {l : List Nat} (h : NumV w v l) (hf : Fr B w w') : NumV w' v l := h.keep hf.size fun b h1 h2 => hf.calm b h2 (h1.calm (by decide))
/-- How the values of a book read: as themselves. -/
def asIs (v : Value) : Option (DataW Value × List MemPlace) := some (.held v, [])
/-- What a book's map holds of a policy: what the policy makes; X: blocks that it doesn't use. -/
def MapAt (X : Nat → Prop) (w : World) (M : Nat) (T : Pl) : Prop :=
  ∃ D : DataW Value, w.ownsMap Try.prog 26 asIs M 16384 D ∧ ∀ x kl, keyOf Try.prog 26 x.v = some kl → has D kl = true → ∃ v l, D.atKey kl (.held (.slice none 0 0)) = .held v ∧ mkP [] T x = some l ∧ Pv w v l ∧ Off X v
theorem Pv.keep {w w' : World} {v : Value} {L : List P8} (h : Pv w v L) (hs : w.heap.size ≤ w'.heap.size) (hk : ∀ b o n c, v = .slice (some ⟨b, o, none⟩) n c → b < w.heap.size → calm w.heap[b]? = true → w'.heap[b]? = w.heap[b]?) : Pv w' v L := by
  rcases h with h | ⟨h1, b, off, cap, h2, h3, h4, h5⟩
  · exact .inl h
  · have e := hk b off _ cap h2 h3 h4
    refine .inr ⟨h1, b, off, cap, h2, Nat.lt_of_lt_of_le h3 hs, by rw [e]; exact h4, fun i hi => At8.of fun j hj => ?_⟩
    rw [World.cell?_of_block (w := w) (w' := w') e]
    exact (h5 i hi).cell j hj
theorem MapAt.keep {X : Nat → Prop} {w w' : World} {M : Nat} {T : Pl} (h : MapAt X w M T) (hs : w.heap.size ≤ w'.heap.size) (hk : ∀ b, ¬ X b → b < w.heap.size → calm w.heap[b]? = true → w'.heap[b]? = w.heap[b]?) (hM : w'.heap[M]? = w.heap[M]?) : MapAt X w' M T := by
  obtain ⟨D, ⟨es, clock, h1, h2⟩, h3⟩ := h
  refine ⟨D, ⟨es, clock, hM.trans h1, h2⟩, fun x kl hk' hh => ?_⟩
  obtain ⟨v, l, e1, e2, e3, e4⟩ := h3 x kl hk' hh
  exact ⟨v, l, e1, e2, e3.keep hs fun b o n c e h1 h2 => hk b (e4 b o n c e) h1 h2, e4⟩
theorem MapAt.lt {X : Nat → Prop} {w : World} {M : Nat} {T : Pl} (h : MapAt X w M T) : M < w.heap.size := by
  obtain ⟨D, h1, _⟩ := h
  exact h1.lt
theorem MapAt.more {X Y : Nat → Prop} {w : World} {M : Nat} {T : Pl} (h : MapAt X w M T) (hY : ∀ b, Y b → X b ∨ w.heap.size ≤ b) : MapAt Y w M T := by
  obtain ⟨D, h1, h3⟩ := h
  refine ⟨D, h1, fun x kl hk hh => ?_⟩
  obtain ⟨v, l, e1, e2, e3, e4⟩ := h3 x kl hk hh
  refine ⟨v, l, e1, e2, e3, fun b o n c e hb => ?_⟩
  rcases hY b hb with k | k
  · exact e4 b o n c e k
  · rcases e3 with ⟨-, e5⟩ | ⟨-, b', off, cap, e5, e6, -⟩
    · rw [e5] at e; cases e
    · rw [e5] at e
      simp only [Value.slice.injEq, Option.some.injEq, Addr.mk.injEq] at e
      obtain ⟨⟨rfl, -⟩, -⟩ := e
      omega
/-- A book: the numbers that are said, rising; one that isn't; what was made. -/
abbrev bcells (sv : Nat → Value) (oc : Nat → Nat) (M : Nat) : Array Value :=
  #[sv 0, sv 1, sv 2, sv 3, sv 4, sv 5, sv 6, sv 7, .int .u16 (oc 0 : Int), .int .u16 (oc 1 : Int), .int .u16 (oc 2 : Int), .int .u16 (oc 3 : Int), .int .u16 (oc 4 : Int), .int .u16 (oc 5 : Int), .int .u16 (oc 6 : Int), .int .u16 (oc 7 : Int), .map (some M)]
structure BookAt (X : Nat → Prop) (w : World) (g M : Nat) (T : Pl) (sv : Nat → Value) (oc : Nat → Nat) (sl : Nat → List Nat) : Prop where
  row : w.heap[g]? = some (.cells (bcells sv oc M) 101)
  said : ∀ f, f < 8 → NumV w (sv f) (sl f) ∧ (sl f).Pairwise (· < ·) ∧ (sl f).length ≤ 1000 ∧ ∀ n ∈ sl f, n ≤ 65535
  mem : ∀ f, f < 8 → ∀ n : Nat, n ∈ sl f ↔ Says T (f : Int) (n : Int)
  oth : ∀ f, f < 8 → oc f ∉ sl f ∧ oc f ≤ 65535
  map : MapAt X w M T
/-- A node's cells. -/
abbrev nobjN (op f n : Int) (kv : Value) (bk : Option Addr) : Obj := .cells #[.int .i64 op, .int .i64 f, .int .u16 n, kv, .pointer bk] 73
/-- The kids of a node: pointers to nodes. -/
def KidsV (G : Nat → Option Pl) (w : World) (kv : Value) (kids : List Pl) : Prop :=
  ∃ sa sc, kv = .slice sa kids.length sc ∧ ∀ k (hk : k < kids.length), ∃ b off c, sa = some ⟨b, off, none⟩ ∧ b < w.heap.size ∧ isT 59 w.heap[b]? ∧ w.cell? ⟨b, off + k, none⟩ = some (.pointer (some ⟨c, 0, none⟩)) ∧ G c = some kids[k]
theorem KidsV.keep {G : Nat → Option Pl} {w w' : World} {v : Value} {l : List Pl} (h : KidsV G w v l) (hs : w.heap.size ≤ w'.heap.size) (hk : ∀ b, isT 59 w.heap[b]? → b < w.heap.size → w'.heap[b]? = w.heap[b]?) : KidsV G w' v l := by
  obtain ⟨sa, sc, h1, h2⟩ := h
  refine ⟨sa, sc, h1, fun k hk' => ?_⟩
  obtain ⟨b, off, c, e1, e2, e3, e4, e5⟩ := h2 k hk'
  have e := hk b e3 e2
  exact ⟨b, off, c, e1, Nat.lt_of_lt_of_le e2 hs, by rw [e]; exact e3, by rw [World.cell?_of_block (w := w) (w' := w') e]; exact e4, e5⟩
/-- A node with its tree; ow: whose map a block is. -/
structure NodeAt (G : Nat → Option Pl) (X : Nat → Prop) (ow : Nat → Nat) (w : World) (b : Nat) (op f n : Int) (kids : List Pl) (kv : Value) (bk : Option Addr) : Prop where
  row : w.heap[b]? = some (nobjN op f n kv bk)
  kd : KidsV G w kv kids
  book : ∀ a, bk = some a → ∃ g M sv oc sl, a = ⟨g, 0, none⟩ ∧ BookAt X w g M (.mk op f n kids) sv oc sl ∧ ow M = b
def Inv (B : Nat) (G : Nat → Option Pl) (X : Nat → Prop) (w : World) : Prop :=
  B ≤ w.heap.size ∧ ∃ ow : Nat → Nat, ∀ b op f n kids, G b = some (.mk op f n kids) → B ≤ b ∧ ∃ kv bk, NodeAt G X ow w b op f n kids kv bk
/-- What a policy uses stays, but for blocks of X. -/
theorem Inv.keep {B : Nat} {G : Nat → Option Pl} {X : Nat → Prop} {w w' : World} (h : Inv B G X w) (hs : w.heap.size ≤ w'.heap.size) (hk : ∀ b, b < w.heap.size → (X b → ¬ isT 26 w.heap[b]?) → w'.heap[b]? = w.heap[b]?) : Inv B G X w' := by
  obtain ⟨hB, ow, h⟩ := h
  have hm : ∀ (b : Nat) (es : Array MapEntry) (clock : Nat), w.heap[b]? = some (Obj.map es clock) → w'.heap[b]? = w.heap[b]? := fun b es clock e => hk b (heap_lt e) fun _ ⟨cs, fz, e'⟩ => by rw [e] at e'; cases e'
  have ht : ∀ t b, t ≠ 26 → isT t w.heap[b]? → b < w.heap.size → w'.heap[b]? = w.heap[b]? := fun t b hne e hb => hk b hb fun _ e' => e.ne e' hne rfl
  refine ⟨Nat.le_trans hB hs, ow, fun b op f n kids hG => ?_⟩
  obtain ⟨h1, kv, bk, h2⟩ := h b op f n kids hG
  refine ⟨h1, kv, bk, (ht 73 b (by decide) ⟨_, _, h2.row⟩ (heap_lt h2.row)).trans h2.row, h2.kd.keep hs (ht 59 · (by decide)), fun a ha => ?_⟩
  obtain ⟨g, M, sv, oc, sl, e1, e2, e3⟩ := h2.book a ha
  refine ⟨g, M, sv, oc, sl, e1, ⟨(ht 101 g (by decide) ⟨_, _, e2.row⟩ (heap_lt e2.row)).trans e2.row, fun f hf => ⟨(e2.said f hf).1.keep hs (ht 24 · (by decide)), (e2.said f hf).2⟩, e2.mem, e2.oth, e2.map.keep hs (fun b h1 h2 _ => hk b h2 fun h => absurd h h1) ?_⟩, e3⟩
  obtain ⟨D, ⟨es, clock, k1, k2⟩, k3⟩ := e2.map
  exact hm M es clock k1
theorem Inv.below {B : Nat} {G : Nat → Option Pl} {X : Nat → Prop} {w w' : World} (h : Inv B G X w) (hb : Below w.heap.size w w') : Inv B G X w' := h.keep hb.size fun b h1 _ => hb.block b h1
theorem Inv.more {B : Nat} {G : Nat → Option Pl} {X Y : Nat → Prop} {w : World} (h : Inv B G X w) (hY : ∀ b, Y b → X b ∨ w.heap.size ≤ b) : Inv B G Y w := by
  obtain ⟨hB, ow, h⟩ := h
  refine ⟨hB, ow, fun b op f n kids hG => ?_⟩
  obtain ⟨h1, kv, bk, h2⟩ := h b op f n kids hG
  refine ⟨h1, kv, bk, h2.row, h2.kd, fun a ha => ?_⟩
  obtain ⟨g, M, sv, oc, sl, e1, e2, e3⟩ := h2.book a ha
  exact ⟨g, M, sv, oc, sl, e1, ⟨e2.row, e2.said, e2.mem, e2.oth, e2.map.more hY⟩, e3⟩
/-- A row of packets grows that the policy doesn't use. -/
theorem Inv.grown {B : Nat} {G : Nat → Option Pl} {X : Nat → Prop} {w w' : World} {row : Option Nat} (h : Inv B G X w) (hg : w.grownBy w' row) (hr : ∀ g, row = some g → X g ∧ isT 26 w.heap[g]?) : Inv B G X w' :=
  h.keep hg.size fun b h1 h2 => hg.block b h1 fun e => by
    obtain ⟨k1, k2⟩ := hr b e.symm
    exact h2 k1 k2
/-- What holds of all trees there. -/
structure GoodT (T : Pl) : Prop where
  form : formP 4 T = true
  noSt : noSt T
  ok : okN T
  size : sizeP T ≤ 300
def Good (G : Nat → Option Pl) : Prop := ∀ b T, G b = some T → GoodT T
theorem GoodT.kid {op f n : Int} {kids : List Pl} (h : GoodT (.mk op f n kids)) (i : Nat) (hi : i < kids.length) : GoodT kids[i] := by
  have hf := h.form
  rw [formP_eq, Bool.and_eq_true] at hf
  have hs := h.noSt
  rw [Go.Proofs.Ytipiepcbgjceaaa.noSt] at hs
  have ho := h.ok
  rw [okN] at ho
  have hz := h.size
  rw [sizeP_mk] at hz
  have := size_get kids i hi
  refine ⟨?_, ?_, okN_get kids ho.2 i hi, by omega⟩
  · cases he : formP 4 kids[i] with
    | true => rfl
    | false => rw [formL_false 4 kids i hi he] at hf; exact absurd hf.2 (by decide)
  · exact noGet kids hs.2 i hi
  where
  noGet : ∀ (k : List Pl), noSt.noL k → ∀ i (hi : i < k.length), Go.Proofs.Ytipiepcbgjceaaa.noSt k[i]
  | p :: r, h, 0, _ => by rw [noSt.noL] at h; simpa using h.1
  | p :: r, h, i + 1, hi => by rw [noSt.noL] at h; simpa using noGet r h.2 i (by simpa using hi)
end Go.Proofs.Ytipiepcbgjceaaa
