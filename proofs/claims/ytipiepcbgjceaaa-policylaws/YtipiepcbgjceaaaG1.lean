/- How a grown policy lies in memory, with the books that its nodes may have, and what stays while it works; no conditions. -/
import Derived.Test.YtipiepcbgjceaaaS4
import Derived.Test.YtipiepcbgjceaaaL1
import Derived.Maps.OwnSet
import Derived.DeepKeys4
import Derived.WideKeyArgs
import Derived.Test.YtipiepcbgjceaaaK10
import Derived.Deep.AppendLies
import Derived.Deep.RegionLaw
set_option linter.unusedVariables false
set_option linter.unusedSimpArgs false
namespace Go.Proofs.Ytipiepcbgjceaaa
open Go.RowKit Go.Joins Go.Maps

/-! ### What stays: all blocks but nodes without a book and maps, and whatever is older than the policy -/
def hasBook : Option Value → Bool
  | some (Value.pointer (some _)) => true
  | _ => false
def calm : Option Obj → Bool
  | some (.cells cs t _) => t != 73 || hasBook (cs.toList[4]?)
  | some (.map _ _) => false
  | _ => true
structure Fr (B : Nat) (w w' : World) : Prop where
  os : w'.os = w.os
  tape : w'.tape = w.tape
  output : w'.output = w.output
  size : w.heap.size ≤ w'.heap.size
  low : ∀ k, k < w.heap.size → k < B → w'.heap[k]? = w.heap[k]?
  calm : ∀ k, k < w.heap.size → calm w.heap[k]? = true → w'.heap[k]? = w.heap[k]?
theorem Fr.refl (B : Nat) (w : World) : Fr B w w := ⟨rfl, rfl, rfl, Nat.le_refl _, fun _ _ _ => rfl, fun _ _ _ => rfl⟩
theorem Fr.trans {B : Nat} {a b c : World} (h : Fr B a b) (k : Fr B b c) : Fr B a c :=
  ⟨k.os.trans h.os, k.tape.trans h.tape, k.output.trans h.output, Nat.le_trans h.size k.size,
    fun i hi hB => (k.low i (Nat.lt_of_lt_of_le hi h.size) hB).trans (h.low i hi hB),
    fun i hi hc => (k.calm i (Nat.lt_of_lt_of_le hi h.size) (by rw [h.calm i hi hc]; exact hc)).trans (h.calm i hi hc)⟩
theorem Fr.of_below {B : Nat} {w w' : World} (h : Below w.heap.size w w') : Fr B w w' := ⟨h.os, h.tape, h.output, h.size, fun k hk _ => h.block k hk, fun k hk _ => h.block k hk⟩
theorem Fr.below {B : Nat} {w w' : World} (h : Fr B w w') (hB : B ≤ w.heap.size) : Below B w w' := ⟨h.os, h.tape, h.output, h.size, fun k hk => h.low k (by omega) hk⟩
/-- Behind a call what was new in it may have turned. -/
theorem Fr.since {B C : Nat} {a b c : World} (h : Fr B a b) (k : Below C b c) (hC : a.heap.size ≤ C) : Fr B a c :=
  ⟨k.os.trans h.os, k.tape.trans h.tape, k.output.trans h.output, Nat.le_trans h.size k.size,
    fun i hi hB => (k.block i (by omega)).trans (h.low i hi hB), fun i hi hc => (k.block i (by omega)).trans (h.calm i hi hc)⟩
theorem Fr.drewN {B : Nat} {a w : World} (h : Fr B a w) (n : Nat) : Fr B a (w.drewN n) := h.trans (Fr.of_below (below_drewN (Below.refl _ w) n))
theorem Fr.alloc {B : Nat} {a w : World} (h : Fr B a w) (o : Obj) : Fr B a (w.alloc o) := h.trans (Fr.of_below ((Below.refl _ w).alloc (Nat.le_refl _) _))

/-! ### Lists of packets; none of them is nil -/
def Pv (w : World) (v : Value) (L : List P8) : Prop :=
  (L = [] ∧ v = .slice none 0 0) ∨ (L ≠ [] ∧ ∃ b off cap, v = .slice (some ⟨b, off, none⟩) L.length cap ∧ b < w.heap.size ∧ calm w.heap[b]? = true ∧ ∀ i (h : i < L.length), At8 w b (off + i * 8) L[i])
theorem Pv.nil (w : World) : Pv w (.slice none 0 0) [] := .inl ⟨rfl, rfl⟩
theorem Pv.pks {w : World} {v : Value} {L : List P8} (h : Pv w v L) : Pks w v L := by
  rcases h with ⟨h1, h2⟩ | ⟨h1, b, off, cap, h2, h3, h4, h5⟩
  · exact .inr ⟨h1, none, 0, h2⟩
  · exact .inl ⟨b, off, cap, h2, h3, h5⟩
theorem Pv.fr {B : Nat} {w w' : World} {v : Value} {L : List P8} (h : Pv w v L) (hf : Fr B w w') : Pv w' v L := by
  rcases h with h | ⟨h1, b, off, cap, h2, h3, h4, h5⟩
  · exact .inl h
  · have e := hf.calm b h3 h4
    refine .inr ⟨h1, b, off, cap, h2, Nat.lt_of_lt_of_le h3 hf.size, by rw [e]; exact h4, fun i hi => At8.of fun j hj => ?_⟩
    rw [World.cell?_of_block (w := w) (w' := w') e]
    exact (h5 i hi).cell j hj
theorem Pv.below {w w' : World} {v : Value} {L : List P8} (h : Pv w v L) (hb : Below w.heap.size w w') : Pv w' v L := h.fr (B := 0) (Fr.of_below hb)
theorem Pv.shape {w : World} {v : Value} {L : List P8} (h : Pv w v L) : ∃ sa sc, v = .slice sa L.length sc ∧ ∀ k (hk : k < L.length), ∃ b off, sa = some ⟨b, off, none⟩ ∧ b < w.heap.size ∧ calm w.heap[b]? = true ∧ At8 w b (off + k * 8) L[k] := by
  rcases h with ⟨h1, h2⟩ | ⟨h1, b, off, cap, h2, h3, h4, h5⟩
  · subst h1
    exact ⟨none, 0, h2, fun k hk => by simp at hk⟩
  · exact ⟨_, _, h2, fun k hk => ⟨b, off, rfl, h3, h4, h5 k hk⟩⟩
theorem calm_cells {w : World} {b : Nat} {cs : Array Value} {t : TypeId} {fz : Nat × Nat} (h : w.heap[b]? = some (.cells cs t fz)) (ht : t ≠ 73) : calm w.heap[b]? = true := by
  rw [h]; simp [calm, ht]
/-- A block of cells of a type. -/
def isT (t : TypeId) (o : Option Obj) : Prop := ∃ cs fz, o = some (.cells cs t fz)
theorem isT.calm {t : TypeId} {o : Option Obj} (h : isT t o) (ht : t ≠ 73) : calm o = true := by
  obtain ⟨cs, fz, rfl⟩ := h
  simp [Go.Proofs.Ytipiepcbgjceaaa.calm, ht]
theorem isT.ne {t u : TypeId} {w : World} {a b : Nat} (h : isT t w.heap[a]?) (k : isT u w.heap[b]?) (hne : t ≠ u) : a ≠ b := fun e => by
  subst e
  obtain ⟨cs, fz, e1⟩ := h
  obtain ⟨cs', fz', e2⟩ := k
  rw [e1] at e2
  injection e2 with e2
  injection e2 with _ e2 _
  exact hne e2
/-- The block behind a value is none of these. -/
def Off (X : Nat → Prop) (v : Value) : Prop := ∀ b o n c, v = .slice (some ⟨b, o, none⟩) n c → ¬ X b
theorem Off.nil (X : Nat → Prop) : Off X (.slice none 0 0) := fun b o n c e => by cases e
/-- A row of the call's own, nil where it is empty. -/
structure OwnP (w : World) (lo : Nat) (v : Value) (L : List P8) : Prop where
  own : w.ownsRow lo 26 8 v L.length (flat8 L)
  nil : L = [] → v = .slice none 0 0
theorem OwnP.none (w : World) (lo : Nat) : OwnP w lo (.slice none 0 0) [] := ⟨World.ownsRow_nil _ _ _ _, fun _ => rfl⟩
theorem OwnP.pv {w : World} {lo : Nat} {v : Value} {L : List P8} (h : OwnP w lo v L) : Pv w v L := by
  by_cases hL : L = []
  · exact .inl ⟨hL, h.nil hL⟩
  · rcases h.own.2 with ⟨hv, hn⟩ | ⟨g, cap, cur, hv, hB, hgg, hcap, hmax, hsz, htk⟩
    · exact absurd (List.length_eq_zero_iff.1 hn) hL
    · exact .inr ⟨hL, g, 0, cap, hv, heap_lt hgg, calm_cells hgg (by decide), own_at (B := lo) (cap := cap) hgg rfl htk⟩
theorem own_fr {B : Nat} {w w' : World} {lo e size n : Nat} {v : Value} {xs : List Value} (h : w.ownsRow lo e size v n xs) (hf : Fr B w w') (he : e ≠ 73) : w'.ownsRow lo e size v n xs := by
  refine ⟨h.1, ?_⟩
  rcases h.2 with hn | ⟨g, cap, cur, rfl, hg, hgg, rest⟩
  · exact .inl hn
  · exact .inr ⟨g, cap, cur, rfl, hg, by rw [hf.calm g (heap_lt hgg) (calm_cells hgg he)]; exact hgg, rest⟩
theorem OwnP.fr {B : Nat} {w w' : World} {lo : Nat} {v : Value} {L : List P8} (h : OwnP w lo v L) (hf : Fr B w w') : OwnP w' lo v L := ⟨own_fr h.own hf (by decide), h.nil⟩
theorem OwnP.mono {w : World} {lo lo' : Nat} {v : Value} {L : List P8} (h : OwnP w lo v L) (hl : lo' ≤ lo) : OwnP w lo' v L := by
  refine ⟨⟨h.own.1, ?_⟩, h.nil⟩
  rcases h.own.2 with hn | ⟨g, cap, cur, hv, hg, rest⟩
  · exact .inl hn
  · exact .inr ⟨g, cap, cur, hv, Nat.le_trans hl hg, rest⟩

/-! ### The nodes -/
/-- The numbers that a policy's tests and puts say of a field. -/
def Says : Pl → Int → Int → Prop
  | .mk op f n kids, F, N => ((op = 2 ∨ op = 5) ∧ f = F ∧ n = N) ∨ saysL kids F N
  where
  saysL : List Pl → Int → Int → Prop
  | [], _, _ => False
  | p :: r, F, N => Says p F N ∨ saysL r F N
/-- Numbers behind a slice, in a block that stays. -/
def NumV (w : World) (v : Value) (l : List Nat) : Prop :=
  ∃ sa sc, v = .slice sa l.length sc ∧ ∀ k (hk : k < l.length), ∃ b off, sa = some ⟨b, off, none⟩ ∧ b < w.heap.size ∧ isT 24 w.heap[b]? ∧ w.cell? ⟨b, off + k, none⟩ = some (.int .u16 (l[k] : Int))
theorem NumV.keep {w w' : World} {v : Value} {l : List Nat} (h : NumV w v l) (hs : w.heap.size ≤ w'.heap.size) (hk : ∀ b, isT 24 w.heap[b]? → b < w.heap.size → w'.heap[b]? = w.heap[b]?) : NumV w' v l := by
  obtain ⟨sa, sc, h1, h2⟩ := h
  refine ⟨sa, sc, h1, fun k hk' => ?_⟩
  obtain ⟨b, off, e1, e2, e3, e4⟩ := h2 k hk'
  have e := hk b e3 e2
  exact ⟨b, off, e1, Nat.lt_of_lt_of_le e2 hs, by rw [e]; exact e3, by rw [World.cell?_of_block (w := w) (w' := w') e]; exact e4⟩
theorem NumV.fr {B : Nat} {w w' : World} {v : Value} {l : List Nat} (h : NumV w v l) (hf : Fr B w w') : NumV w' v l := h.keep hf.size fun b h1 h2 => hf.calm b h2 (h1.calm (by decide))
/-- How the values of a book read: as themselves. -/
def asIs (v : Value) : Option (DataW Value × List MemPlace) := some (.held v, [])
/-- What a book's map holds of a policy: what the policy makes; X: blocks that it doesn't use. -/
def MapAt (X : Nat → Prop) (w : World) (M : Nat) (T : Pl) : Prop :=
  ∃ D : DataW Value, w.ownsMap Try.prog 26 asIs M 16384 D ∧ ∀ x kl, keyOf Try.prog 26 x.v = some kl → has D kl = true → ∃ v l, D.atKey kl (.held (.slice none 0 0)) = .held v ∧ mkP [] T x = some l ∧ Pv w v l ∧ Off X v
theorem Pv.keep {w w' : World} {v : Value} {L : List P8} (h : Pv w v L) (hs : w.heap.size ≤ w'.heap.size) (hk : ∀ b o n c, v = .slice (some ⟨b, o, none⟩) n c → b < w.heap.size → calm w.heap[b]? = true → w'.heap[b]? = w.heap[b]?) : Pv w' v L := by
  rcases h with h | ⟨h1, b, off, cap, h2, h3, h4, h5⟩
  · exact .inl h
  · have e := hk b off _ cap h2 h3 h4
    refine .inr ⟨h1, b, off, cap, h2, Nat.lt_of_lt_of_le h3 hs, by rw [e]; exact h4, fun i hi => At8.of fun j hj => ?_⟩
    rw [World.cell?_of_block (w := w) (w' := w') e]
    exact (h5 i hi).cell j hj
theorem MapAt.keep {X : Nat → Prop} {w w' : World} {M : Nat} {T : Pl} (h : MapAt X w M T) (hs : w.heap.size ≤ w'.heap.size) (hk : ∀ b, ¬ X b → b < w.heap.size → calm w.heap[b]? = true → w'.heap[b]? = w.heap[b]?) (hM : w'.heap[M]? = w.heap[M]?) : MapAt X w' M T := by
  obtain ⟨D, ⟨es, clock, h1, h2⟩, h3⟩ := h
  refine ⟨D, ⟨es, clock, hM.trans h1, h2⟩, fun x kl hk' hh => ?_⟩
  obtain ⟨v, l, e1, e2, e3, e4⟩ := h3 x kl hk' hh
  exact ⟨v, l, e1, e2, e3.keep hs fun b o n c e h1 h2 => hk b (e4 b o n c e) h1 h2, e4⟩
theorem MapAt.lt {X : Nat → Prop} {w : World} {M : Nat} {T : Pl} (h : MapAt X w M T) : M < w.heap.size := by
  obtain ⟨D, h1, _⟩ := h
  exact h1.lt
theorem MapAt.more {X Y : Nat → Prop} {w : World} {M : Nat} {T : Pl} (h : MapAt X w M T) (hY : ∀ b, Y b → X b ∨ w.heap.size ≤ b) : MapAt Y w M T := by
  obtain ⟨D, h1, h3⟩ := h
  refine ⟨D, h1, fun x kl hk hh => ?_⟩
  obtain ⟨v, l, e1, e2, e3, e4⟩ := h3 x kl hk hh
  refine ⟨v, l, e1, e2, e3, fun b o n c e hb => ?_⟩
  rcases hY b hb with k | k
  · exact e4 b o n c e k
  · rcases e3 with ⟨-, e5⟩ | ⟨-, b', off, cap, e5, e6, -⟩
    · rw [e5] at e; cases e
    · rw [e5] at e
      simp only [Value.slice.injEq, Option.some.injEq, Addr.mk.injEq] at e
      obtain ⟨⟨rfl, -⟩, -⟩ := e
      omega
/-- A book: the numbers that are said, rising; one that isn't; what was made. -/
abbrev bcells (sv : Nat → Value) (oc : Nat → Nat) (M : Nat) : Array Value :=
  #[sv 0, sv 1, sv 2, sv 3, sv 4, sv 5, sv 6, sv 7, .int .u16 (oc 0 : Int), .int .u16 (oc 1 : Int), .int .u16 (oc 2 : Int), .int .u16 (oc 3 : Int), .int .u16 (oc 4 : Int), .int .u16 (oc 5 : Int), .int .u16 (oc 6 : Int), .int .u16 (oc 7 : Int), .map (some M)]
structure BookAt (X : Nat → Prop) (w : World) (g M : Nat) (T : Pl) (sv : Nat → Value) (oc : Nat → Nat) (sl : Nat → List Nat) : Prop where
  row : w.heap[g]? = some (.cells (bcells sv oc M) 101)
  said : ∀ f, f < 8 → NumV w (sv f) (sl f) ∧ (sl f).Pairwise (· < ·) ∧ (sl f).length ≤ 1000 ∧ ∀ n ∈ sl f, n ≤ 65535
  mem : ∀ f, f < 8 → ∀ n : Nat, n ∈ sl f ↔ Says T (f : Int) (n : Int)
  oth : ∀ f, f < 8 → oc f ∉ sl f ∧ oc f ≤ 65535
  map : MapAt X w M T
/-- A node's cells. -/
abbrev nobjN (op f n : Int) (kv : Value) (bk : Option Addr) : Obj := .cells #[.int .i64 op, .int .i64 f, .int .u16 n, kv, .pointer bk] 73
/-- The kids of a node: pointers to nodes. -/
def KidsV (G : Nat → Option Pl) (w : World) (kv : Value) (kids : List Pl) : Prop :=
  ∃ sa sc, kv = .slice sa kids.length sc ∧ ∀ k (hk : k < kids.length), ∃ b off c, sa = some ⟨b, off, none⟩ ∧ b < w.heap.size ∧ isT 59 w.heap[b]? ∧ w.cell? ⟨b, off + k, none⟩ = some (.pointer (some ⟨c, 0, none⟩)) ∧ G c = some kids[k]
theorem KidsV.keep {G : Nat → Option Pl} {w w' : World} {v : Value} {l : List Pl} (h : KidsV G w v l) (hs : w.heap.size ≤ w'.heap.size) (hk : ∀ b, isT 59 w.heap[b]? → b < w.heap.size → w'.heap[b]? = w.heap[b]?) : KidsV G w' v l := by
  obtain ⟨sa, sc, h1, h2⟩ := h
  refine ⟨sa, sc, h1, fun k hk' => ?_⟩
  obtain ⟨b, off, c, e1, e2, e3, e4, e5⟩ := h2 k hk'
  have e := hk b e3 e2
  exact ⟨b, off, c, e1, Nat.lt_of_lt_of_le e2 hs, by rw [e]; exact e3, by rw [World.cell?_of_block (w := w) (w' := w') e]; exact e4, e5⟩
/-- A node with its tree; ow: whose map a block is. -/
structure NodeAt (G : Nat → Option Pl) (X : Nat → Prop) (ow : Nat → Nat) (w : World) (b : Nat) (op f n : Int) (kids : List Pl) (kv : Value) (bk : Option Addr) : Prop where
  row : w.heap[b]? = some (nobjN op f n kv bk)
  kd : KidsV G w kv kids
  book : ∀ a, bk = some a → ∃ g M sv oc sl, a = ⟨g, 0, none⟩ ∧ BookAt X w g M (.mk op f n kids) sv oc sl ∧ ow M = b
def Inv (B : Nat) (G : Nat → Option Pl) (X : Nat → Prop) (w : World) : Prop :=
  B ≤ w.heap.size ∧ ∃ ow : Nat → Nat, (∀ m, m < B → ow m < B) ∧ ∀ b op f n kids, G b = some (.mk op f n kids) → B ≤ b ∧ ∃ kv bk, NodeAt G X ow w b op f n kids kv bk
/-- What a policy uses stays, but for blocks of X. -/
theorem Inv.keep {B : Nat} {G : Nat → Option Pl} {X : Nat → Prop} {w w' : World} (h : Inv B G X w) (hs : w.heap.size ≤ w'.heap.size) (hk : ∀ b, b < w.heap.size → (X b → ¬ isT 26 w.heap[b]?) → w'.heap[b]? = w.heap[b]?) : Inv B G X w' := by
  obtain ⟨hB, ow, how, h⟩ := h
  have hm : ∀ (b : Nat) (es : Array MapEntry) (clock : Nat), w.heap[b]? = some (Obj.map es clock) → w'.heap[b]? = w.heap[b]? := fun b es clock e => hk b (heap_lt e) fun _ ⟨cs, fz, e'⟩ => by rw [e] at e'; cases e'
  have ht : ∀ t b, t ≠ 26 → isT t w.heap[b]? → b < w.heap.size → w'.heap[b]? = w.heap[b]? := fun t b hne e hb => hk b hb fun _ e' => e.ne e' hne rfl
  refine ⟨Nat.le_trans hB hs, ow, how, fun b op f n kids hG => ?_⟩
  obtain ⟨h1, kv, bk, h2⟩ := h b op f n kids hG
  refine ⟨h1, kv, bk, (ht 73 b (by decide) ⟨_, _, h2.row⟩ (heap_lt h2.row)).trans h2.row, h2.kd.keep hs (ht 59 · (by decide)), fun a ha => ?_⟩
  obtain ⟨g, M, sv, oc, sl, e1, e2, e3⟩ := h2.book a ha
  refine ⟨g, M, sv, oc, sl, e1, ⟨(ht 101 g (by decide) ⟨_, _, e2.row⟩ (heap_lt e2.row)).trans e2.row, fun f hf => ⟨(e2.said f hf).1.keep hs (ht 24 · (by decide)), (e2.said f hf).2⟩, e2.mem, e2.oth, e2.map.keep hs (fun b h1 h2 _ => hk b h2 fun h => absurd h h1) ?_⟩, e3⟩
  obtain ⟨D, ⟨es, clock, k1, k2⟩, k3⟩ := e2.map
  exact hm M es clock k1
theorem Inv.below {B : Nat} {G : Nat → Option Pl} {X : Nat → Prop} {w w' : World} (h : Inv B G X w) (hb : Below w.heap.size w w') : Inv B G X w' := h.keep hb.size fun b h1 _ => hb.block b h1
theorem Inv.more {B : Nat} {G : Nat → Option Pl} {X Y : Nat → Prop} {w : World} (h : Inv B G X w) (hY : ∀ b, Y b → X b ∨ w.heap.size ≤ b) : Inv B G Y w := by
  obtain ⟨hB, ow, how, h⟩ := h
  refine ⟨hB, ow, how, fun b op f n kids hG => ?_⟩
  obtain ⟨h1, kv, bk, h2⟩ := h b op f n kids hG
  refine ⟨h1, kv, bk, h2.row, h2.kd, fun a ha => ?_⟩
  obtain ⟨g, M, sv, oc, sl, e1, e2, e3⟩ := h2.book a ha
  exact ⟨g, M, sv, oc, sl, e1, ⟨e2.row, e2.said, e2.mem, e2.oth, e2.map.more hY⟩, e3⟩
/-- A row of packets grows that the policy doesn't use. -/
theorem Inv.grown {B : Nat} {G : Nat → Option Pl} {X : Nat → Prop} {w w' : World} {row : Option Nat} (h : Inv B G X w) (hg : w.grownBy w' row) (hr : ∀ g, row = some g → X g ∧ isT 26 w.heap[g]?) : Inv B G X w' :=
  h.keep hg.size fun b h1 h2 => hg.block b h1 fun e => by
    obtain ⟨k1, k2⟩ := hr b e.symm
    exact h2 k1 k2
/-- What holds of all trees there. -/
structure GoodT (T : Pl) : Prop where
  form : formP 4 T = true
  noSt : noSt T
  ok : okN T
  size : sizeP T ≤ 300
def Good (G : Nat → Option Pl) : Prop := ∀ b T, G b = some T → GoodT T
theorem GoodT.kid {op f n : Int} {kids : List Pl} (h : GoodT (.mk op f n kids)) (i : Nat) (hi : i < kids.length) : GoodT kids[i] := by
  have hf := h.form
  rw [formP_eq, Bool.and_eq_true] at hf
  have hs := h.noSt
  rw [Go.Proofs.Ytipiepcbgjceaaa.noSt] at hs
  have ho := h.ok
  rw [okN] at ho
  have hz := h.size
  rw [sizeP_mk] at hz
  have := size_get kids i hi
  refine ⟨?_, ?_, okN_get kids ho.2 i hi, by omega⟩
  · cases he : formP 4 kids[i] with
    | true => rfl
    | false => rw [formL_false 4 kids i hi he] at hf; exact absurd hf.2 (by decide)
  · exact noGet kids hs.2 i hi
  where
  noGet : ∀ (k : List Pl), noSt.noL k → ∀ i (hi : i < k.length), Go.Proofs.Ytipiepcbgjceaaa.noSt k[i]
  | p :: r, h, 0, _ => by rw [noSt.noL] at h; simpa using h.1
  | p :: r, h, i + 1, hi => by rw [noSt.noL] at h; simpa using noGet r h.2 i (by simpa using hi)
end Go.Proofs.Ytipiepcbgjceaaa
/- What grow leaves: a tree of nodes, each in a block of its own; policies of up to 1000 nodes. -/
set_option linter.unusedVariables false
set_option linter.unusedSimpArgs false
namespace Go.Proofs.Ytipiepcbgjceaaa
open Go.RowKit Go.Joins

theorem info59 : (Try.prog.info? 59).map (fun i => (i.zero, i.size, i.bytes)) = some (some (.pointer none), 1, 8) := by kernel_rfl
theorem row5 {w : World} {g : Nat} {t : TypeId} {x0 x1 x2 x3 x4 : Value} (hg : w.heap[g]? = some (.cells #[x0, x1, x2, x3, x4] t)) :
    w.cell? ⟨g, 0, none⟩ = some x0 ∧ w.cell? ⟨g, 1, none⟩ = some x1 ∧ w.cell? ⟨g, 2, none⟩ = some x2 ∧ w.cell? ⟨g, 3, none⟩ = some x3 ∧ w.cell? ⟨g, 4, none⟩ = some x4 := by
  have c := fun j => cell_of_row w g j _ _ _ hg
  exact ⟨by simpa using c 0, by simpa using c 1, by simpa using c 2, by simpa using c 3, by simpa using c 4⟩
theorem frz5 {w : World} {g : Nat} {t : TypeId} {cs : Array Value} (hg : w.heap[g]? = some (.cells cs t)) (o : Nat) : w.frozen? ⟨g, o, none⟩ = false := frozen_of_row w g o _ _ hg

theorem grown_row {w w' : World} {row : Option Nat} {g : Nat} {o : Obj} (hg : w.grownBy w' row) (h : w.heap[g]? = some o) (hne : some g ≠ row) : w'.heap[g]? = some o := (hg.block g (heap_lt h) hne).trans h
/-- Kids that lie from lo on, off one block. -/
def KidsA (lo : Nat) (av : Option Nat) (G : Nat → Option Pl) (w : World) (kv : Value) (kids : List Pl) : Prop :=
  ∃ sa sc, kv = .slice sa kids.length sc ∧ ∀ k (hk : k < kids.length), ∃ b off c, sa = some ⟨b, off, none⟩ ∧ lo ≤ b ∧ some b ≠ av ∧ b < w.heap.size ∧ isT 59 w.heap[b]? ∧ w.cell? ⟨b, off + k, none⟩ = some (.pointer (some ⟨c, 0, none⟩)) ∧ G c = some kids[k]
/-- Nodes without books, from lo on, off one block. -/
def FreshG (lo : Nat) (av : Option Nat) (G : Nat → Option Pl) (w : World) : Prop :=
  ∀ b op f n kids, G b = some (.mk op f n kids) → lo ≤ b ∧ some b ≠ av ∧ ∃ kv, w.heap[b]? = some (nobjN op f n kv none) ∧ KidsA lo av G w kv kids
theorem KidsA.keep {lo lo' : Nat} {av av' : Option Nat} {G G' : Nat → Option Pl} {w w' : World} {kv : Value} {kids : List Pl} (h : KidsA lo av G w kv kids) (hs : w.heap.size ≤ w'.heap.size) (hG : ∀ c t, G c = some t → G' c = some t)
    (hk : ∀ b, lo ≤ b → some b ≠ av → b < w.heap.size → w'.heap[b]? = w.heap[b]? ∧ lo' ≤ b ∧ some b ≠ av') : KidsA lo' av' G' w' kv kids := by
  obtain ⟨sa, sc, h1, h2⟩ := h
  refine ⟨sa, sc, h1, fun k hkl => ?_⟩
  obtain ⟨b, off, c, e1, e2, e3, e4, e5, e6, e7⟩ := h2 k hkl
  obtain ⟨k1, k2, k3⟩ := hk b e2 e3 e4
  exact ⟨b, off, c, e1, k2, k3, Nat.lt_of_lt_of_le e4 hs, by rw [k1]; exact e5, by rw [World.cell?_of_block (w := w) (w' := w') k1]; exact e6, hG _ _ e7⟩
theorem FreshG.keep {lo lo' : Nat} {av av' : Option Nat} {G G' : Nat → Option Pl} {w w' : World} (h : FreshG lo av G w) (hs : w.heap.size ≤ w'.heap.size) (hG : ∀ c t, G c = some t → G' c = some t)
    (hk : ∀ b, lo ≤ b → some b ≠ av → b < w.heap.size → w'.heap[b]? = w.heap[b]? ∧ lo' ≤ b ∧ some b ≠ av') (b : Nat) (op f n : Int) (kids : List Pl) (hb : G b = some (.mk op f n kids)) :
    lo' ≤ b ∧ some b ≠ av' ∧ ∃ kv, w'.heap[b]? = some (nobjN op f n kv none) ∧ KidsA lo' av' G' w' kv kids := by
  obtain ⟨h1, h2, kv, h3, h4⟩ := h b op f n kids hb
  obtain ⟨k1, k2, k3⟩ := hk b h1 h2 (heap_lt h3)
  exact ⟨k2, k3, kv, k1.trans h3, h4.keep hs hG hk⟩
/-- Two lots of nodes together. -/
def both (G1 G : Nat → Option Pl) (c : Nat) : Option Pl := match G1 c with
  | some t => some t
  | none => G c
theorem both_left {G1 G : Nat → Option Pl} {c : Nat} {t : Pl} (h : G1 c = some t) : both G1 G c = some t := by unfold both; rw [h]
theorem both_right {G1 G : Nat → Option Pl} {c : Nat} {t : Pl} (h : G c = some t) (h1 : G1 c = none) : both G1 G c = some t := by unfold both; rw [h1]; exact h
theorem both_or {G1 G : Nat → Option Pl} {c : Nat} {t : Pl} (h : both G1 G c = some t) : G1 c = some t ∨ (G1 c = none ∧ G c = some t) := by
  unfold both at h
  cases e : G1 c with
  | some u => rw [e] at h; exact .inl h
  | none => rw [e] at h; exact .inr ⟨rfl, h⟩
/-- Where the loop over the kids is. -/
structure GrowSt (w : World) (op f n : Int) (pv : Value) (kids : List Pl) (k : Nat) (kv : Value) (xs : List Value) (G : Nat → Option Pl) (wr : World) : Prop where
  bel : Below w.heap.size w wr
  siz : w.heap.size + 2 ≤ wr.heap.size
  row : wr.heap[w.heap.size + 1]? = some (nobjN op f n kv none)
  own : wr.ownsRow (w.heap.size + 2) 59 1 kv k xs
  ptr : xs.length = k ∧ ∀ j (hj : j < kids.length), j < k → ∃ c, xs[j]? = some (.pointer (some ⟨c, 0, none⟩)) ∧ G c = some kids[j]
  fresh : FreshG (w.heap.size + 2) kv.ownBlock G wr
  dom : ∀ c T, G c = some T → c < wr.heap.size ∧ (∃ i, ∃ h : i < kids.length, GoodT kids[i] → GoodT T)
/-- What grow answers. -/
def GrowEnd (T : Pl) (w : World) (e : Ending) (w' : World) : Prop :=
  ∃ c G, e = .returned (.pointer (some ⟨c, 0, none⟩)) ∧ Below w.heap.size w w' ∧ G c = some T ∧ FreshG w.heap.size none G w' ∧ ∀ b T', G b = some T' → b < w'.heap.size ∧ (GoodT T → GoodT T')
theorem GrowSt.below {w : World} {op f n : Int} {pv : Value} {kids : List Pl} {k : Nat} {kv : Value} {xs : List Value} {G : Nat → Option Pl} {wr w' : World} (h : GrowSt w op f n pv kids k kv xs G wr) (hb : Below wr.heap.size wr w') : GrowSt w op f n pv kids k kv xs G w' where
  bel := h.bel.trans (hb.mono h.bel.size)
  siz := Nat.le_trans h.siz hb.size
  row := (hb.block _ (heap_lt h.row)).trans h.row
  own := own_below h.own hb
  ptr := h.ptr
  fresh := fun b op f n kids hG => h.fresh.keep hb.size (fun _ _ h => h) (fun b h1 h2 h3 => ⟨hb.block b h3, h1, h2⟩) b op f n kids hG
  dom := fun c T hc => ⟨Nat.lt_of_lt_of_le (h.dom c T hc).1 hb.size, (h.dom c T hc).2⟩
/-- A kid more. -/
theorem GrowSt.step {w : World} {op f n : Int} {pv : Value} {kids : List Pl} {k : Nat} {kv : Value} {xs : List Value} {G : Nat → Option Pl} {wa w1 w2 w3 : World} {c : Nat} {G1 : Nat → Option Pl} {v' : Value} {H : Nat} (h : GrowSt w op f n pv kids k kv xs G wa) (hk : k < kids.length)
    (hb1 : Below wa.heap.size wa w1) (hc : G1 c = some kids[k]) (hf : FreshG wa.heap.size none G1 w1) (hd : ∀ b T', G1 b = some T' → b < w1.heap.size ∧ (GoodT kids[k] → GoodT T'))
    (hb2 : Below w1.heap.size w1 w2) (hown : w3.ownsRow (w.heap.size + 2) 59 1 v' (k + 1) (xs ++ [.pointer (some ⟨c, 0, none⟩)])) (hg : w2.grownBy w3 kv.ownBlock) (hl : kv.ownBlock = v'.ownBlock ∨ v'.ownBlock = some H) (hH : w1.heap.size ≤ H) :
    GrowSt w op f n pv kids (k + 1) v' (xs ++ [.pointer (some ⟨c, 0, none⟩)]) (both G1 G) (w3.setCell ⟨w.heap.size + 1, 3, none⟩ v') := by
  have h12 := hb1.trans (hb2.mono hb1.size)
  have ha := h.below h12
  have s3 := hg.size
  have s12 := h12.size
  have sz := h.siz
  have hav : ∀ b, some b = kv.ownBlock → w.heap.size + 2 ≤ b ∧ b < wa.heap.size := fun b e => h.own.lt b e.symm
  have hset : ∀ b, b ≠ w.heap.size + 1 → (w3.setCell ⟨w.heap.size + 1, 3, none⟩ v').heap[b]? = w3.heap[b]? := fun b hb => heap_setCell_other _ _ _ _ hb
  have hss : (w3.setCell ⟨w.heap.size + 1, 3, none⟩ v').heap.size = w3.heap.size := by simp [World.setCell]
  have hG1no : ∀ b T', G1 b = some T' → wa.heap.size ≤ b := fun b T' e => by cases T' with | mk o f n k => exact (hf b o f n k e).1
  have hGno : ∀ b T', G b = some T' → G1 b = none := fun b T' e => by
    cases e1 : G1 b with
    | none => rfl
    | some t => have := hG1no b t e1; have := (h.dom b T' e).1; omega
  have keepA : ∀ b, w.heap.size + 2 ≤ b → some b ≠ kv.ownBlock → b < w2.heap.size → (w3.setCell ⟨w.heap.size + 1, 3, none⟩ v').heap[b]? = w2.heap[b]? := fun b h1 h2 h3 => (hset b (by omega)).trans (hg.block b h3 h2)
  have av' : ∀ b, b < w1.heap.size → some b ≠ kv.ownBlock → some b ≠ v'.ownBlock := fun b h1 h2 h3 => by
    rcases hl with e | e
    · rw [← e] at h3; exact h2 h3
    · rw [e] at h3; injection h3 with h3; omega
  refine ⟨?_, ?_, ?_, ?_, ?_, ?_, ?_⟩
  · refine Below.setCell (Below.grown ha.bel hg (by omega) fun b e => ?_) (by show w.heap.size ≤ w.heap.size + 1; omega) _
    have := hav b e.symm; omega
  · rw [hss]; omega
  · have hr := ha.row
    have hr3 : w3.heap[w.heap.size + 1]? = some (nobjN op f n kv none) := (hg.block _ (heap_lt hr) (fun e => by have := hav _ e; omega)).trans hr
    have := heap_setCell_same w3 (w.heap.size + 1) 3 _ _ v' hr3
    simpa using this
  · refine ⟨hown.1, ?_⟩
    rcases hown.2 with hn | ⟨g, cap, cur, hv, hgl, hgg, rest⟩
    · exact .inl hn
    · exact .inr ⟨g, cap, cur, hv, hgl, (hset g (by omega)).trans hgg, rest⟩
  · refine ⟨by simp [h.ptr.1], fun j hj hjk => ?_⟩
    by_cases e : j < k
    · obtain ⟨c', e1, e2⟩ := h.ptr.2 j hj e
      exact ⟨c', by rw [List.getElem?_append_left (by rw [h.ptr.1]; exact e)]; exact e1, both_right e2 (hGno _ _ e2)⟩
    · have : j = k := by omega
      subst this
      exact ⟨c, by rw [List.getElem?_append_right (by rw [h.ptr.1]; exact Nat.le_refl _), h.ptr.1]; simp, both_left hc⟩
  · intro b op' f' n' kids' hG
    rcases both_or hG with e | ⟨e0, e⟩
    · refine hf.keep (G' := both G1 G) (by rw [hss]; have := hb2.size; omega) (fun c t hc => both_left hc) (fun b h1 h2 h3 => ?_) b op' f' n' kids' e
      have hne : some b ≠ kv.ownBlock := fun e => by have := hav b e; omega
      exact ⟨(keepA b (by omega) hne (Nat.lt_of_lt_of_le h3 hb2.size)).trans (hb2.block b h3), by omega, av' b h3 hne⟩
    · refine h.fresh.keep (G' := both G1 G) (by rw [hss]; omega) (fun c t hc => both_right hc (hGno _ _ hc)) (fun b h1 h2 h3 => ?_) b op' f' n' kids' e
      have hb1s := hb1.size
      exact ⟨(keepA b h1 h2 (by omega)).trans (h12.block b h3), h1, av' b (by omega) h2⟩
  · intro b T hG
    rw [hss]
    rcases both_or hG with e | ⟨e0, e⟩
    · have := hd b T e
      exact ⟨by have := hb2.size; omega, k, hk, this.2⟩
    · have := h.dom b T e
      exact ⟨by omega, this.2⟩
/-- The end of it. -/
theorem GrowSt.done {w : World} {op f n : Int} {pv : Value} {kids : List Pl} {kv : Value} {xs : List Value} {G : Nat → Option Pl} {wr : World} (h : GrowSt w op f n pv kids kids.length kv xs G wr) : GrowEnd (.mk op f n kids) w (.returned (.pointer (some ⟨w.heap.size + 1, 0, none⟩))) wr := by
  have hno : G (w.heap.size + 1) = none := by
    cases e : G (w.heap.size + 1) with
    | none => rfl
    | some t => cases t with | mk o f n k => have := (h.fresh _ o f n k e).1; omega
  have hset : ∀ c t, G c = some t → (if c = w.heap.size + 1 then some (Pl.mk op f n kids) else G c) = some t := fun c t hc => by
    split
    · rename_i e; rw [e, hno] at hc; cases hc
    · exact hc
  refine ⟨w.heap.size + 1, fun c => if c = w.heap.size + 1 then some (.mk op f n kids) else G c, rfl, h.bel, if_pos rfl, fun b op' f' n' kids' hb => ?_, fun b T hb => ?_⟩
  · dsimp only at hb
    by_cases e : b = w.heap.size + 1
    · subst e
      rw [if_pos rfl] at hb
      injection hb with hb
      injection hb with e1 e2 e3 e4
      subst e1 e2 e3 e4
      refine ⟨by omega, by simp, kv, h.row, ?_⟩
      rcases h.own.2 with ⟨hv, hn⟩ | ⟨g, cap, cur, hv, hB, hgg, hcap, hmax, hsz, htk⟩
      · exact ⟨none, 0, by rw [hn]; exact hv, fun k hk => by omega⟩
      · refine ⟨_, cap, hv, fun k hk => ?_⟩
        obtain ⟨c, hc1, hc2⟩ := h.ptr.2 k hk hk
        refine ⟨g, 0, c, rfl, by omega, by simp, heap_lt hgg, ⟨_, _, hgg⟩, ?_, hset _ _ hc2⟩
        rw [cell_of_row _ _ _ _ _ _ hgg]
        rw [← htk, List.getElem?_take_of_lt (by omega), Array.getElem?_toList] at hc1
        rw [show 0 + k = k by omega]
        exact hc1
    · rw [if_neg e] at hb
      exact h.fresh.keep (Nat.le_refl _) hset (fun b h1 h2 h3 => ⟨rfl, by omega, by simp⟩) b op' f' n' kids' hb
  · dsimp only at hb
    by_cases e : b = w.heap.size + 1
    · subst e
      rw [if_pos rfl] at hb
      injection hb with hb
      subst hb
      exact ⟨heap_lt h.row, fun h => h⟩
    · rw [if_neg e] at hb
      obtain ⟨h1, i, hi, h2⟩ := h.dom b T hb
      exact ⟨h1, fun hg => h2 (hg.kid i hi)⟩

/-- A policy that was grown is one that works. -/
theorem inv_fresh {B : Nat} {G : Nat → Option Pl} {X : Nat → Prop} {w : World} (h : FreshG B none G w) (hB : B ≤ w.heap.size) : Inv B G X w := by
  refine ⟨hB, fun _ => 0, fun m hm => Nat.lt_of_le_of_lt (Nat.zero_le m) hm, fun b op f n kids hb => ?_⟩
  obtain ⟨h1, h2, kv, h3, sa, sc, h4, h5⟩ := h b op f n kids hb
  refine ⟨h1, kv, none, h3, ⟨sa, sc, h4, fun k hk => ?_⟩, fun a e => by cases e⟩
  obtain ⟨b', off, c, e1, e2, e3, e4, e5, e6, e7⟩ := h5 k hk
  exact ⟨b', off, c, e1, e4, e5, e6, e7⟩

set_option maxRecDepth 100000 in
set_option maxHeartbeats 8000000 in
theorem grow_any {P : Nat → Prop} : ∀ (m : Nat) (T : Pl) (x : Nd) (w : World), sizeP T ≤ m → m ≤ 1000 → PolAt P w T x → Calls Try.prog 24 #[nv x] w fun e w' => GrowEnd T w e w'
  | 0, T, x, w, h, _, _ => absurd (size_pos T) (by omega)
  | m + 1, .mk op f n kids, x, w, hs, hm, hp => by
    obtain ⟨i0, hi, hz0, hz1, hz2⟩ := info_parts info59
    obtain ⟨sa, sc, rfl, hk⟩ := hp.open
    have ih := fun T x w h => grow_any (P := P) m T x w h (by omega)
    rw [sizeP_mk] at hs
    have hl := len_le kids
    have HK : Hid _ := hk
    have IH : Hid _ := ih
    clear hk ih hp
    have HS0 : Hid (GrowSt w op f n (.slice sa kids.length sc) kids 0 (.slice none 0 0) [] (fun _ => none) ((w.alloc (pobj ⟨op, f, n, .slice sa kids.length sc⟩)).alloc (nobjN op f n (.slice none 0 0) none))) := by
      refine ⟨((Below.refl _ w).alloc (Nat.le_refl _) _).alloc (by simp) _, by simp, ?_, World.ownsRow_nil _ _ _ _, ⟨rfl, fun j _ h => by omega⟩, fun b o f n k h => (by cases h), fun c T h => (by cases h)⟩
      exact heap_alloc2_new w _ _
    obtain ⟨R, eR⟩ : ∃ R, kids.length = R := ⟨_, rfl⟩
    have HER : Hid (kids.length = R) := eR
    rw [eR] at HS0 ⊢
    go_enter Try.func24, Try.ntmps24
    go_wp2_with fail
    go_loopw [17] (fun i wr => ∃ (k : Nat) (kv : Value) (xs : List Value) (G : Nat → Option Pl), k ≤ R ∧ i = .int .i64 (k : Int) ∧ Hid (GrowSt w op f n (.slice sa R sc) kids k kv xs G wr)) (fun i _ => R - (intOf i).toNat)
    case atStart => exact ⟨0, _, _, _, Nat.zero_le _, rfl, HS0⟩
    case round =>
      clear HS0
      obtain ⟨k, kv, xs, G, hkl, rfl, HS⟩ := hrel
      have hsiz := HS.out.siz
      by_cases hlt : k < R
      · have hlt' : k < kids.length := by rw [HER.out]; exact hlt
        obtain ⟨b, off, sa2, n2, sc2, y0, y1, y2, rfl, hb, ha, hp⟩ := HK.out k hlt'
        obtain ⟨a0, a1, a2, a3⟩ := ha.same (HS.out.bel.block b hb)
        have hsz := size_get kids k hlt'
        obtain ⟨WA, hWA⟩ : ∃ WA, WA = wr.alloc (pobj ⟨y0, y1, y2, .slice sa2 n2 sc2⟩) := ⟨_, rfl⟩
        have hba : Below wr.heap.size wr WA := by rw [hWA]; exact (Below.refl _ _).alloc (Nat.le_refl _) _
        have HSA : Hid (GrowSt w op f n (.slice (some ⟨b, off, none⟩) R sc) kids k kv xs G WA) := HS.out.below hba
        have hcell : WA.heap[wr.heap.size]? = some (pobj ⟨y0, y1, y2, .slice sa2 n2 sc2⟩) := by rw [hWA]; exact heap_alloc_new _ _
        obtain ⟨q0, q1, q2, q3⟩ := row4 hcell
        have cS : Hid (∀ W, Below WA.heap.size WA W → Calls Try.prog 24 #[nv ⟨y0, y1, y2, .slice sa2 n2 sc2⟩] W fun e w' => GrowEnd kids[k] W e w') := fun W hW => IH.out kids[k] ⟨y0, y1, y2, .slice sa2 n2 sc2⟩ W (by omega) (((hp.below HS.out.bel).below hba).below hW)
        obtain ⟨r0, r1, r2, r3, r4⟩ := row5 HSA.out.row
        have f3 := frz5 HSA.out.row 3
        have HBd : Hid (Below WA.heap.size WA WA.drew) := below_drewN (Below.refl _ WA) 1
        obtain ⟨kb, kn, kc, rfl⟩ : ∃ kb kn kc, kv = .slice kb kn kc := by
          obtain ⟨u, v, e⟩ := own_shape HSA.out.own
          exact ⟨_, _, _, e⟩
        clear hp ha hsz hba hcell
        go_wp2_with fail
        rw [← hWA]
        clear hWA a0 a1 a2 a3
        have hnew : ∀ (W : World) (c : Nat), ∀ j u, [Value.pointer (some ⟨c, 0, none⟩)][j]? = some u → (W.alloc (.cells #[.pointer (some ⟨c, 0, none⟩)] 59)).cell? ((⟨W.heap.size, 0, none⟩ : Addr).add j) = some u := fun W c => cell_one_new W _ _
        have HNew : Hid _ := hnew
        have hrl := heap_lt HSA.out.row
        have HRow : Hid _ := HSA.out.row
        have hol : Hid (∀ b, some b = (Value.slice kb kn kc).ownBlock → w.heap.size + 2 ≤ b) := fun b e => (HSA.out.own.lt b e.symm).1
        clear hnew
        go_region_law (first
          | (refine step_append_lies _ (by rfl) _ _ _ (by rfl) (w.heap.size + 2) 59 i0 (.pointer none) 1 8 Try.underlying70 hi hz0 hz1 hz2 rfl (by decide) (.slice kb kn kc) k xs (by rfl) (hown2.alloc _) ⟨w2.heap.size, 0, none⟩ 1 1 [.pointer (some ⟨cc, 0, none⟩)] (by rfl) rfl (HNew.out w2 cc) (fun x hx => by simp at hx; rw [hx]; rfl) (by decide) (by unfold maxLen; omega) (by omega) (by simp; omega) (w2.heap.size + 1) (by simp) ?_; intro g4 cap4 w4 hown4 hgrow4 hloc4 hlt4; have hrow4 := grown_row hgrow4 hrow3 (fun e => by have := hol.out _ e; omega); have f4 := frz5 hrow4 3; obtain ⟨t0, t1, t2, t3, t4⟩ := row5 hrow4)
          | (go_simp; go_at_call 24; refine Calls.mono (cS.out _ HBd.out) ?_; rintro e w2 ⟨cc, G1, rfl, hb2, hc2, hf2, hd2⟩; have HB2 : Hid (Below WA.heap.size WA w2) := HBd.out.trans (hb2.mono HBd.out.size); have hw2 := HB2.out.size; have hrow2 := (HB2.out.block _ hrl).trans HRow.out; have hrow3 : ((w2.alloc (.cells #[.pointer (some ⟨cc, 0, none⟩)] 59)).heap[w.heap.size + 1]? = some (nobjN op f n (.slice kb kn kc) none)) := (Below.heap_alloc w2 (.cells #[.pointer (some ⟨cc, 0, none⟩)] 59) _ (heap_lt hrow2)).trans hrow2; obtain ⟨s0, s1, s2, s3, s4⟩ := row5 hrow2; obtain ⟨z0, z1, z2, z3, z4⟩ := row5 hrow3; have hown2 := own_below HSA.out.own HB2.out))
        all_goals
          have HS4 : Hid (GrowSt w op f n (.slice (some ⟨b, off, none⟩) R sc) kids (k + 1) (.slice (some ⟨g4, 0, none⟩) (k + 1) cap4) (xs ++ [.pointer (some ⟨cc, 0, none⟩)]) (both G1 G) (w4.setCell ⟨w.heap.size + 1, 3, none⟩ (.slice (some ⟨g4, 0, none⟩) (k + 1) cap4))) :=
            GrowSt.step (w1 := w2) (w2 := w2.alloc (.cells #[.pointer (some ⟨cc, 0, none⟩)] 59)) (H := w2.heap.size + 1) (HSA.out.below HBd.out) hlt' hb2 hc2 hf2 hd2 ((Below.refl _ w2).alloc (Nat.le_refl _) _) hown4 hgrow4 (by rcases hloc4 with e | e; exact .inl (by rw [e]; rfl); exact .inr (by rw [e]; rfl)) (by omega)
          clear hb2 hc2 hf2 hd2 hown4 hgrow4 hloc4 hlt4 hrow4 f4 t0 t1 t2 t3 t4 s0 s1 s2 s3 s4 z0 z1 z2 z3 z4 hown2 hrow2 hrow3 HB2 cS q0 q1 q2 q3 r0 r1 r2 r3 r4 f3
          go_wp2
          go_roundw
          case rel => exact ⟨k + 1, _, _, _, by omega, by go_num, HS4⟩
          case measure => simp [intOf]; omega
      · obtain rfl : k = R := by omega
        have hE : Hid (GrowEnd (.mk op f n kids) w (.returned (.pointer (some ⟨w.heap.size + 1, 0, none⟩))) wr) := GrowSt.done (by rw [HER.out]; exact HS.out)
        clear HS
        go_wp2
        go_ret
        exact hE.out
end Go.Proofs.Ytipiepcbgjceaaa
