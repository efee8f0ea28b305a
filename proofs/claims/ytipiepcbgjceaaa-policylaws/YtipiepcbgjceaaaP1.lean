/- Policies, rules and programs as trees; no conditions. -/
import Derived.Test.YtipiepcbgjceaaaB0
set_option linter.unusedVariables false
set_option linter.unusedSimpArgs false
namespace Go.Proofs.Ytipiepcbgjceaaa
open Go.RowKit Go.Joins

/-- A policy. -/
structure Pl where
  mk ::
  op : Int
  f : Int
  n : Int
  kids : List Pl

/-- A pair: a field or part, and a number. -/
abbrev Pr := Int × Nat
/-- A rule. -/
structure Rl where
  when : List Pr
  guard : List Pr
  thn : List Pr
/-- A program. -/
structure Pg where
  init : List Nat
  pol : Pl
  rules : List Rl

end Go.Proofs.Ytipiepcbgjceaaa
/- How policies lie in memory; no conditions. -/
set_option linter.unusedVariables false
set_option linter.unusedSimpArgs false
namespace Go.Proofs.Ytipiepcbgjceaaa
open Go.RowKit Go.Joins

/-! ### Policies in memory -/
/-- A policy's own cells. -/
structure Nd where
  op : Int
  f : Int
  n : Int
  kv : Value
def enc4 (x : Nd) : List Value := [.int .i64 x.op, .int .i64 x.f, .int .u16 x.n, x.kv]
abbrev nv (x : Nd) : Value := .agg #[.int .i64 x.op, .int .i64 x.f, .int .u16 x.n, x.kv]
def At4 (w : World) (b o : Nat) (x : Nd) : Prop :=
  w.cell? ⟨b, o, none⟩ = some (.int .i64 x.op) ∧ w.cell? ⟨b, o + 1, none⟩ = some (.int .i64 x.f) ∧ w.cell? ⟨b, o + 2, none⟩ = some (.int .u16 x.n) ∧ w.cell? ⟨b, o + 3, none⟩ = some x.kv
theorem At4.cell {w : World} {b o : Nat} {x : Nd} (h : At4 w b o x) : ∀ j, j < 4 → w.cell? ⟨b, o + j, none⟩ = (enc4 x)[j]? := by
  obtain ⟨h0, h1, h2, h3⟩ := h
  intro j hj
  match j, hj with
  | 0, _ => exact h0
  | 1, _ => exact h1
  | 2, _ => exact h2
  | 3, _ => exact h3
theorem At4.of {w : World} {b o : Nat} {x : Nd} (h : ∀ j, j < 4 → w.cell? ⟨b, o + j, none⟩ = (enc4 x)[j]?) : At4 w b o x :=
  ⟨h 0 (by decide), h 1 (by decide), h 2 (by decide), h 3 (by decide)⟩
theorem At4.same {w w' : World} {b o : Nat} {x : Nd} (h : At4 w b o x) (hb : w'.heap[b]? = w.heap[b]?) : At4 w' b o x :=
  At4.of fun j hj => by rw [World.cell?_of_block (w := w) (w' := w') hb]; exact h.cell j hj

/-- A policy lies there: its kids in blocks of P. -/
def PolAt (P : Nat → Prop) (w : World) : Pl → Nd → Prop
  | .mk op f n kids, x => x.op = op ∧ x.f = f ∧ x.n = n ∧ ∃ sa sc, x.kv = .slice sa kids.length sc ∧ (kids ≠ [] → ∃ b off, sa = some ⟨b, off, none⟩ ∧ P b ∧ b < w.heap.size ∧ KidsAt b off kids)
  where KidsAt (b : Nat) : Nat → List Pl → Prop
  | _, [] => True
  | o, p :: r => (∃ x, At4 w b o x ∧ PolAt P w p x) ∧ KidsAt b (o + 4) r

theorem PolAt.keep {P Q : Nat → Prop} {w w' : World} (hs : w.heap.size ≤ w'.heap.size) (hk : ∀ b, P b → b < w.heap.size → Q b ∧ w'.heap[b]? = w.heap[b]?) : ∀ (T : Pl) (x : Nd), PolAt P w T x → PolAt Q w' T x
  | .mk op f n kids, x, h => by
    unfold PolAt at h ⊢
    obtain ⟨h1, h2, h3, sa, sc, h4, h5⟩ := h
    refine ⟨h1, h2, h3, sa, sc, h4, fun hne => ?_⟩
    obtain ⟨b, off, e, hl, hb, hK⟩ := h5 hne
    exact ⟨b, off, e, (hk b hl hb).1, Nat.lt_of_lt_of_le hb hs, ofKids b hl hb kids off hK⟩
  where ofKids (b : Nat) (hl : P b) (hb : b < w.heap.size) : ∀ (kids : List Pl) (o : Nat), PolAt.KidsAt P w b o kids → PolAt.KidsAt Q w' b o kids
  | [], _, _ => by unfold PolAt.KidsAt; trivial
  | p :: r, o, h => by
    unfold PolAt.KidsAt at h ⊢
    obtain ⟨⟨x, hx, hp⟩, hr⟩ := h
    exact ⟨⟨x, hx.same (hk b hl hb).2, PolAt.keep hs hk p x hp⟩, ofKids b hl hb r (o + 4) hr⟩
theorem PolAt.below {P : Nat → Prop} {w w' : World} {T : Pl} {x : Nd} (h : PolAt P w T x) (hb : Below w.heap.size w w') : PolAt P w' T x :=
  PolAt.keep hb.size (fun b h1 h2 => ⟨h1, hb.block b h2⟩) T x h
theorem PolAt.mono {P Q : Nat → Prop} {w : World} {T : Pl} {x : Nd} (h : PolAt P w T x) (hPQ : ∀ b, P b → b < w.heap.size → Q b) : PolAt Q w T x :=
  PolAt.keep (Nat.le_refl _) (fun b h1 h2 => ⟨hPQ b h1 h2, rfl⟩) T x h
theorem PolAt.set {P : Nat → Prop} {w : World} {T : Pl} {x : Nd} (h : PolAt P w T x) {a : Addr} (ha : ¬ P a.block) (u : Value) : PolAt P (w.setCell a u) T x :=
  PolAt.keep (by simp [World.setCell]) (fun b h1 h2 => ⟨h1, Below.heap_setCell _ _ _ _ (fun e => ha (by rw [← e]; exact h1))⟩) T x h
theorem PolAt.shape {P : Nat → Prop} {w : World} {T : Pl} {x : Nd} (h : PolAt P w T x) : x.op = T.op ∧ x.f = T.f ∧ x.n = T.n ∧ ∃ sa sc, x.kv = .slice sa T.kids.length sc := by
  cases T with
  | mk op f n kids =>
    unfold PolAt at h
    obtain ⟨h1, h2, h3, sa, sc, h4, h5⟩ := h
    exact ⟨h1, h2, h3, sa, sc, h4⟩
theorem PolAt.leaf (P : Nat → Prop) (w : World) (op f n : Int) : PolAt P w (.mk op f n []) ⟨op, f, n, .slice none 0 0⟩ := by
  unfold PolAt
  exact ⟨rfl, rfl, rfl, none, 0, rfl, fun h => absurd rfl h⟩
theorem PolAt.KidsAt.get {P : Nat → Prop} {w : World} {b : Nat} : ∀ (kids : List Pl) (o : Nat), PolAt.KidsAt P w b o kids → ∀ k (hk : k < kids.length), ∃ x, At4 w b (o + k * 4) x ∧ PolAt P w kids[k] x
  | p :: r, o, h, 0, _ => by
    unfold PolAt.KidsAt at h
    simpa using h.1
  | p :: r, o, h, k + 1, hk => by
    unfold PolAt.KidsAt at h
    obtain ⟨x, h1, h2⟩ := PolAt.KidsAt.get r (o + 4) h.2 k (by simpa using hk)
    exact ⟨x, by rw [show o + (k + 1) * 4 = o + 4 + k * 4 by omega]; exact h1, by simpa using h2⟩
theorem PolAt.KidsAt.of {P : Nat → Prop} {w : World} {b : Nat} : ∀ (kids : List Pl) (o : Nat), (∀ k (hk : k < kids.length), ∃ x, At4 w b (o + k * 4) x ∧ PolAt P w kids[k] x) → PolAt.KidsAt P w b o kids
  | [], _, _ => by unfold PolAt.KidsAt; trivial
  | p :: r, o, h => by
    unfold PolAt.KidsAt
    have h0 := h 0 (by simp)
    simp only [Nat.zero_mul, Nat.add_zero, List.getElem_cons_zero] at h0
    refine ⟨h0, PolAt.KidsAt.of r (o + 4) fun k hk => ?_⟩
    have := h (k + 1) (by simpa using hk)
    rw [show o + (k + 1) * 4 = o + 4 + k * 4 by omega] at this
    simpa using this

def flat4 (L : List Nd) : List Value := L.flatMap enc4
theorem flat4_append (a b : List Nd) : flat4 (a ++ b) = flat4 a ++ flat4 b := by simp [flat4]
theorem flat4_one (x : Nd) : flat4 [x] = enc4 x := by simp [flat4]
theorem flat4_get : ∀ (L : List Nd) (i : Nat) (h : i < L.length) (j : Nat), j < 4 → (flat4 L)[i * 4 + j]? = (enc4 L[i])[j]?
  | x :: r, 0, _, j, hj => by
    simp only [flat4, List.flatMap_cons]
    rw [List.getElem?_append_left (by rw [show (enc4 x).length = 4 from rfl]; omega)]
    simp
  | x :: r, i + 1, h, j, hj => by
    have := flat4_get r i (by simpa using h) j hj
    simp only [flat4, List.flatMap_cons] at this ⊢
    rw [List.getElem?_append_right (by rw [show (enc4 x).length = 4 from rfl]; omega), show (enc4 x).length = 4 from rfl, show (i + 1) * 4 + j - 4 = i * 4 + j by omega, this]
    rfl
theorem own_at4 {w : World} {g n : Nat} {cur : Array Value} {L : List Nd} (hgg : w.heap[g]? = some (.cells cur 30 (0, 0))) (hl : L.length = n) (htk : cur.toList.take (n * 4) = flat4 L) : ∀ i (h : i < L.length), At4 w g (0 + i * 4) L[i] := by
  subst hl
  intro i hi
  refine At4.of fun j hj => ?_
  rw [cell_of_row _ _ _ _ _ _ hgg]
  have hlt : i * 4 + j < L.length * 4 := by omega
  have := flat4_get L i hi j hj
  rw [← htk, List.getElem?_take_of_lt hlt, Array.getElem?_toList] at this
  rw [show 0 + i * 4 + j = i * 4 + j by omega]
  exact this
/-- Policies, one by one. -/
def PolsAt (P : Nat → Prop) (w : World) (ps : List Pl) (xs : List Nd) : Prop := ps.length = xs.length ∧ ∀ i (h : i < ps.length) (h' : i < xs.length), PolAt P w ps[i] xs[i]
theorem PolsAt.keep {P Q : Nat → Prop} {w w' : World} {ps : List Pl} {xs : List Nd} (h : PolsAt P w ps xs) (hs : w.heap.size ≤ w'.heap.size) (hk : ∀ b, P b → b < w.heap.size → Q b ∧ w'.heap[b]? = w.heap[b]?) : PolsAt Q w' ps xs := ⟨h.1, fun i a b => PolAt.keep hs hk _ _ (h.2 i a b)⟩
theorem PolsAt.snoc {P : Nat → Prop} {w : World} {ps : List Pl} {xs : List Nd} {p : Pl} {x : Nd} (h : PolsAt P w ps xs) (hp : PolAt P w p x) : PolsAt P w (ps ++ [p]) (xs ++ [x]) := by
  refine ⟨by simp [h.1], fun i a b => ?_⟩
  by_cases hi : i < ps.length
  · rw [List.getElem_append_left hi, List.getElem_append_left (by rw [← h.1]; exact hi)]; exact h.2 i hi (by rw [← h.1]; exact hi)
  · have e : i = ps.length := by simp at a; omega
    subst e
    have h1 := h.1
    simp [h1, hp]
theorem PolsAt.one {P : Nat → Prop} {w : World} {p : Pl} {x : Nd} (hp : PolAt P w p x) : PolsAt P w [p] [x] := by
  refine ⟨rfl, fun i a b => ?_⟩
  have : i = 0 := by simp at a; omega
  subst this; exact hp
/-- Kids in a row of their own. -/
theorem pol_of_own {lo : Nat} {P Q : Nat → Prop} {w : World} {v : Value} {ps : List Pl} {xs : List Nd} (op f n : Int) (ho : w.ownsRow lo 30 4 v xs.length (flat4 xs)) (hp : PolsAt P w ps xs) (hPQ : ∀ b, P b → b < w.heap.size → Q b) (hQ : ∀ b, lo ≤ b → Q b) : PolAt Q w (.mk op f n ps) ⟨op, f, n, v⟩ := by
  unfold PolAt
  refine ⟨rfl, rfl, rfl, ?_⟩
  rcases ho.2 with ⟨hv, hn⟩ | ⟨g, cap, cur, hv, hB, hgg, hcap, hmax, hsz, htk⟩
  · refine ⟨none, 0, by rw [hp.1, hn]; exact hv, fun hne => ?_⟩
    have := hp.1
    exact absurd (List.length_eq_zero_iff.1 (by omega)) hne
  · refine ⟨_, cap, by rw [hp.1]; exact hv, fun _ => ⟨g, 0, rfl, hQ g hB, heap_lt hgg, PolAt.KidsAt.of ps 0 fun k hk => ⟨xs[k]'(by rw [← hp.1]; exact hk), own_at4 hgg rfl htk k _, (hp.2 k hk _).mono hPQ⟩⟩⟩
theorem oneCell_slice (sa : Option Addr) (n c : Nat) : (Value.slice sa n c).oneCell' = true := rfl
theorem enc4_one (x : Nd) (h : x.kv.oneCell' = true) : ∀ u ∈ enc4 x, u.oneCell' = true := by
  intro u hu
  simp [enc4] at hu
  rcases hu with rfl | rfl | rfl | rfl
  · rfl
  · rfl
  · rfl
  · exact h
theorem PolAt.one {P : Nat → Prop} {w : World} {T : Pl} {x : Nd} (h : PolAt P w T x) : x.kv.oneCell' = true := by
  obtain ⟨_, _, _, sa, sc, e⟩ := h.shape
  rw [e]; rfl

/-- A policy's cells, nothing in them. -/
abbrev nobj : Obj := .cells #[.int .i64 0, .int .i64 0, .int .u16 0, .slice none 0 0] 30
/-- A policy's cells. -/
abbrev pobj (x : Nd) : Obj := .cells #[.int .i64 x.op, .int .i64 x.f, .int .u16 x.n, x.kv] 30
theorem info29 : (Try.prog.info? 30).map (fun i => (i.zero, i.size, i.bytes)) = some (some (nv ⟨0, 0, 0, .slice none 0 0⟩), 4, 48) := by kernel_rfl
theorem cell_new4 (w : World) (x : Nd) (g : Nat) (hg : w.heap.size = g) : ∀ j u, (enc4 x)[j]? = some u → (w.alloc (pobj x)).cell? ((⟨g, 0, none⟩ : Addr).add j) = some u := by
  subst hg
  exact cell_new3 w (enc4 x) 30
end Go.Proofs.Ytipiepcbgjceaaa
