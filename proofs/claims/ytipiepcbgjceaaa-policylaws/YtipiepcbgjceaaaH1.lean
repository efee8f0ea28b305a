/- What again and ofEach answer, where makes answers as the model. -/
import Derived.Test.YtipiepcbgjceaaaG1
import Derived.Laws.AppendOwnNone
set_option linter.unusedVariables false
set_option linter.unusedSimpArgs false
namespace Go.Proofs.Ytipiepcbgjceaaa
open Go.RowKit Go.Joins Go.Maps

/-- A packet's numbers are of 16 bits. -/
def Q8 (q : P8) : Prop := ∀ z ∈ q.l, 0 ≤ z ∧ z ≤ 65535
theorem Q8.wth {q : P8} (h : Q8 q) {f n : Int} (hn : 0 ≤ n ∧ n ≤ 65535) : Q8 (q.wth f n) := fun z hz => by
  rw [P8.wth_l] at hz
  unfold put at hz
  split at hz
  · rcases List.mem_or_eq_of_mem_set hz with k | k
    · exact h z k
    · rw [k]; exact hn
  · exact h z hz
theorem mk_q8 (st : List Nat) : ∀ (p : Pl) (q x : P8), okN p → Q8 q → Mk st p q x → Q8 x
  | .mk op f n kids, q, x, ho, hq, h => by
    rw [okN] at ho
    rw [Mk_mk] at h
    split at h
    · exact h.elim
    split at h
    · rw [h]; exact hq
    split at h
    · rw [h.2]; exact hq
    split at h
    · rw [h.2]; exact hq
    split at h
    · rw [h.2]; exact hq
    split at h
    · rw [h]; exact hq.wth ho.1
    split at h
    · exact seq kids q x ho.2 hq h
    · exact sum kids q x ho.2 hq h
  where
  seq : ∀ (k : List Pl) (q x : P8), okN.okL k → Q8 q → Mk.MkSeq st k q x → Q8 x
  | [], q, x, _, hq, h => by rw [Mk.MkSeq] at h; rw [h]; exact hq
  | p :: r, q, x, ho, hq, h => by
    rw [okN.okL] at ho
    rw [Mk.MkSeq] at h
    obtain ⟨y, h1, h2⟩ := h
    exact seq r y x ho.2 (mk_q8 st p q y ho.1 hq h1) h2
  sum : ∀ (k : List Pl) (q x : P8), okN.okL k → Q8 q → Mk.MkSum st k q x → Q8 x
  | [], q, x, _, _, h => by rw [Mk.MkSum] at h; exact h.elim
  | p :: r, q, x, ho, hq, h => by
    rw [okN.okL] at ho
    rw [Mk.MkSum] at h
    rcases h with h | h
    · exact mk_q8 st p q x ho.1 hq h
    · exact sum r q x ho.2 hq h
theorem mkP_q8 {st : List Nat} {p : Pl} {q : P8} {l : List P8} (ho : okN p) (hq : Q8 q) (h : mkP st p q = some l) : ∀ x ∈ l, Q8 x := fun x hx => mk_q8 st p q x ho hq (((mkP_is st p q l h).2 x).1 hx)

/-- Blocks that are there. -/
def Bnd (X : Nat → Prop) (w : World) : Prop := ∀ b, X b → b < w.heap.size
theorem Bnd.mono {X : Nat → Prop} {w w' : World} (h : Bnd X w) (hs : w.heap.size ≤ w'.heap.size) : Bnd X w' := fun b hb => Nat.lt_of_lt_of_le (h b hb) hs
/-- The block behind a value is new. -/
def NewV (lo : Nat) (v : Value) : Prop := ∀ b o n c, v = .slice (some ⟨b, o, none⟩) n c → lo ≤ b
theorem NewV.nil (lo : Nat) : NewV lo (.slice none 0 0) := fun b o n c e => by cases e
theorem NewV.mono {lo lo' : Nat} {v : Value} (h : NewV lo v) (hl : lo' ≤ lo) : NewV lo' v := fun b o n c e => Nat.le_trans hl (h b o n c e)
theorem NewV.own {w : World} {lo e size n : Nat} {v : Value} {xs : List Value} (h : w.ownsRow lo e size v n xs) : NewV lo v := fun b o m c ev => by
  rcases h.2 with ⟨hv, _⟩ | ⟨g, cap, cur, hv, hg, _⟩
  · rw [hv] at ev; cases ev
  · rw [hv] at ev
    simp only [Value.slice.injEq, Option.some.injEq, Addr.mk.injEq] at ev
    obtain ⟨⟨rfl, -⟩, -⟩ := ev
    exact hg

/-- How the making of a policy ends. -/
def MadeEnd (B : Nat) (G : Nat → Option Pl) (X : Nat → Prop) (r : Option (List P8)) (w : World) (e : Ending) (w' : World) : Prop :=
  ∃ v ok, e = .returned (.tuple #[v, .bool ok]) ∧ Fr B w w' ∧ Inv B G X w' ∧ NewV w.heap.size v ∧ (∀ l, r = some l → ok = true ∧ Pv w' v l) ∧ (r = none → ok = false ∧ v = .slice none 0 0)
/-- Likewise, the packets in any order. -/
def AgainEnd (B : Nat) (G : Nat → Option Pl) (X : Nat → Prop) (r : Option (List P8)) (w : World) (e : Ending) (w' : World) : Prop :=
  ∃ v ok, e = .returned (.tuple #[v, .bool ok]) ∧ Fr B w w' ∧ Inv B G X w' ∧ NewV w.heap.size v ∧ (∀ l, r = some l → ok = true ∧ ∃ M, Pv w' v M ∧ sortL M = l ∧ M.length ≤ 64) ∧ (r = none → ok = false ∧ v = .slice none 0 0)
def MakesC (B : Nat) (G : Nat → Option Pl) (T : Pl) : Prop :=
  ∀ (X : Nat → Prop) (b : Nat) (q : P8) (w : World), Q8 q → G b = some T → Bnd X w → Inv B G X w → Calls Try.prog 25 #[.pointer (some ⟨b, 0, none⟩), q.v] w fun e w' => MadeEnd B G X (mkP [] T q) w e w'
def AgainC (B : Nat) (G : Nat → Option Pl) (T : Pl) (s : Int) : Prop :=
  ∀ (X : Nat → Prop) (b : Nat) (q : P8) (w : World), Q8 q → G b = some T → Bnd X w → Inv B G X w → Calls Try.prog 52 #[.pointer (some ⟨b, 0, none⟩), q.v, .int .i64 s] w fun e w' => AgainEnd B G X (mkP [] T q) w e w'
/-- What again does by the book. -/
def Many (B : Nat) (G : Nat → Option Pl) : Prop := ∀ (T : Pl) (s : Int), GoodT T → 2 ≤ s → s ≤ 64 → T.kids ≠ [] → MakesC B G T → AgainC B G T s

theorem Inv.node {B : Nat} {G : Nat → Option Pl} {X : Nat → Prop} {w : World} (h : Inv B G X w) {b : Nat} {op f n : Int} {kids : List Pl} (hG : G b = some (.mk op f n kids)) : ∃ kv bk, w.heap[b]? = some (nobjN op f n kv bk) ∧ KidsV G w kv kids := by
  obtain ⟨_, ow, _, h⟩ := h
  obtain ⟨_, kv, bk, h2⟩ := h b op f n kids hG
  exact ⟨kv, bk, h2.row, h2.kd⟩
theorem MadeEnd.again {B : Nat} {G : Nat → Option Pl} {X : Nat → Prop} {r : Option (List P8)} {w w0 : World} {e : Ending} {w' : World} (h : MadeEnd B G X r w e w') (hr : ∀ l, r = some l → SS l ∧ l.length ≤ 64) (hw : Below w0.heap.size w0 w) : AgainEnd B G X r w0 e w' := by
  obtain ⟨v, ok, e1, e2, e3, e4, e5, e6⟩ := h
  refine ⟨v, ok, e1, (Fr.of_below hw).trans e2, e3, e4.mono hw.size, fun l hl => ⟨(e5 l hl).1, l, (e5 l hl).2, sort_of_ss (hr l hl).1, (hr l hl).2⟩, e6⟩

set_option maxRecDepth 100000 in
set_option maxHeartbeats 2000000 in
/-- Again, where it goes without the book. -/
theorem again_easy (B : Nat) (G : Nat → Option Pl) (T : Pl) (s : Int) (hM : MakesC B G T) (h : s < 2 ∨ T.kids = []) : AgainC B G T s := by
  intro X b q w hq hG hX hI
  obtain ⟨op, f, n, kids⟩ := T
  have hb0 : Below w.heap.size w (w.alloc (.cells (enc8 q).toArray 26)) := (Below.refl _ w).alloc (Nat.le_refl _) _
  have cM := hM X b q (w.alloc (.cells (enc8 q).toArray 26)) hq hG (hX.mono hb0.size) (hI.below hb0)
  have HR : Hid (∀ e w', MadeEnd B G X (mkP [] (.mk op f n kids) q) (w.alloc (.cells (enc8 q).toArray 26)) e w' → AgainEnd B G X (mkP [] (.mk op f n kids) q) w e w') := fun e w' h => h.again (fun l hl => ⟨mkP_ss hl, mkP_len [] _ q l hl⟩) hb0
  obtain ⟨kv, bk, hrow, sa, sc, rfl, hk⟩ := (hI.below hb0).node hG
  obtain ⟨r0, r1, r2, r3, r4⟩ := row5 hrow
  obtain ⟨⟨c0, c1, c2, c3, c4, c5, c6, c7⟩, -, -⟩ := row8 (heap_alloc_new w (.cells #[.int .u16 q.a0, .int .u16 q.a1, .int .u16 q.a2, .int .u16 q.a3, .int .u16 q.a4, .int .u16 q.a5, .int .u16 q.a6, .int .u16 q.a7] 26))
  simp only [enc8] at cM HR r3 r0 r1 r2 r4
  have he : ∀ e : Ending, (∃ v ok, e = .returned (.tuple #[v, .bool ok])) → True := fun _ _ => trivial
  clear hk hrow hM hI hX hG he
  generalize mkP [] (.mk op f n kids) q = R at *
  by_cases h2 : s < 2
  · have d : decide (s < 2) = true := by simpa using h2
    clear h h2
    go_enter Try.func52, Try.ntmps52
    go_wp2_with fail
    refine cM.mono ?_
    rintro e w1 hE
    have hA := HR.out e w1 hE
    obtain ⟨v, ok, rfl, -⟩ := hE
    have HA : Hid _ := hA
    clear hA cM HR
    go_wp2
    refine bodyPost_ret (v := .tuple #[v, .bool ok]) ?_ rfl HA.out
    simp [results, Try.results52, go_sem]
  · have d : decide (s < 2) = false := by simpa using h2
    have hk0 : kids = [] := by rcases h with h | h; exact absurd h h2; exact h
    subst hk0
    clear h h2
    go_enter Try.func52, Try.ntmps52
    go_wp2_with fail
    refine cM.mono ?_
    rintro e w1 hE
    have hA := HR.out e w1 hE
    obtain ⟨v, ok, rfl, -⟩ := hE
    have HA : Hid _ := hA
    clear hA cM HR
    go_wp2
    refine bodyPost_ret (v := .tuple #[v, .bool ok]) ?_ rfl HA.out
    simp [results, Try.results52, go_sem]

/-- What ofEach answers. -/
def EachEnd (B : Nat) (G : Nat → Option Pl) (X : Nat → Prop) (r : Option (List P8)) (w : World) (e : Ending) (w' : World) : Prop :=
  ∃ v ok, e = .returned (.tuple #[v, .bool ok]) ∧ Fr B w w' ∧ Inv B G X w' ∧ NewV w.heap.size v ∧ (∀ l, r = some l → ok = true ∧ OwnP w' w.heap.size v l) ∧ (r = none → ok = false ∧ v = .slice none 0 0)
/-- The block of a value, with others. -/
def withV (X : Nat → Prop) (v : Value) (b : Nat) : Prop := X b ∨ some b = v.ownBlock
/-- Where a loop stands that puts lists together. -/
structure Col (B : Nat) (G : Nat → Option Pl) (X : Nat → Prop) (w : World) (v : Value) (acc : List P8) (wr : World) : Prop where
  fr : Fr B w wr
  own : OwnP wr w.heap.size v acc
  inv : Inv B G (withV X v) wr
theorem Col.bnd {B : Nat} {G : Nat → Option Pl} {X : Nat → Prop} {w : World} {v : Value} {acc : List P8} {wr : World} (h : Col B G X w v acc wr) (hX : Bnd X w) : Bnd (withV X v) wr := fun b hb => by
  rcases hb with k | k
  · exact Nat.lt_of_lt_of_le (hX b k) h.fr.size
  · exact (h.own.own.lt b k.symm).2
theorem Col.start {B : Nat} {G : Nat → Option Pl} {X : Nat → Prop} {w w' : World} (hI : Inv B G X w) (hb : Below w.heap.size w w') : Col B G X w (.slice none 0 0) [] w' :=
  ⟨Fr.of_below hb, OwnP.none _ _, (hI.below hb).more fun b h => by rcases h with h | h; exact .inl h; simp [Value.ownBlock] at h⟩
/-- A list more is put to it, and all of it in order. -/
theorem Col.put {B : Nat} {G : Nat → Option Pl} {X : Nat → Prop} {w : World} {v v2 : Value} {acc L2 : List P8} {wr w1 w2 : World} {row : Option Nat} (hv : v.ownBlock = row) (h : Inv B G (withV X v) wr) (hf : Fr B w wr) (ho : wr.ownsRow w.heap.size 26 8 v acc.length (flat8 acc))
    (hg : wr.grownBy w1 row) (hb2 : Below w1.heap.size w1 w2) (ho2 : OwnP w2 w1.heap.size v2 L2) : Col B G X w v2 L2 w2 := by
  have hlt : ∀ b, row = some b → w.heap.size ≤ b ∧ b < wr.heap.size := fun b e => ho.lt b (by rw [hv]; exact e)
  have hfs := hf.size
  have hgs := hg.size
  have h1 : Inv B G (withV X v) w1 := h.grown hg fun g e => ⟨.inr (by rw [hv]; exact e.symm), by
    rcases ho.2 with ⟨e1, _⟩ | ⟨g', cap, cur, e1, _, hgg, _⟩
    · rw [e1] at hv; rw [e] at hv; simp [Value.ownBlock] at hv
    · rw [e1] at hv
      rw [e] at hv
      simp only [Value.ownBlock, Option.some.injEq] at hv
      rw [← hv]
      exact ⟨_, _, hgg⟩⟩
  have hB : Below w.heap.size wr w1 := ⟨hg.os, hg.tape, hg.output, hg.size, fun k hk => hg.block k (by omega) fun e => by have := hlt k e.symm; omega⟩
  refine ⟨(hf.since hB (Nat.le_refl _)).trans (Fr.of_below hb2), ho2.mono (by omega), (h1.more fun b hb => ?_).below hb2⟩
  rcases hb with k | k
  · exact .inl (.inl k)
  · exact .inr (ho2.own.lt b k.symm).1
theorem flat8_one (L : List P8) : ∀ u ∈ flat8 L, u.oneCell' = true := fun u hu => by
  obtain ⟨x, _, hx⟩ := List.mem_flatMap.1 hu
  exact enc8_one x u hx
/-- packet.Sort of a row, nil or not. -/
theorem sort_row (v : Value) (L : List P8) (hlen : L.length ≤ 500) (w : World) (lo : Nat) (h : OwnP w lo v L) :
    Calls Try.prog 47 #[v] w fun e w' => ∃ v', e = .returned v' ∧ OwnP w' w.heap.size v' (sortL L) ∧ Below w.heap.size w w' := by
  by_cases hL : L = []
  · subst hL
    rw [h.nil rfl]
    refine (sort_nil w).mono ?_
    rintro e w' ⟨rfl, rfl⟩
    exact ⟨_, rfl, OwnP.none _ _, Below.refl _ _⟩
  · refine (sort_own v L hL hlen w h.pv.pks).mono ?_
    rintro e w' ⟨v', rfl, ho, hb⟩
    exact ⟨v', rfl, ⟨ho, fun e => absurd e (sortL_ne hL)⟩, hb⟩
end Go.Proofs.Ytipiepcbgjceaaa
