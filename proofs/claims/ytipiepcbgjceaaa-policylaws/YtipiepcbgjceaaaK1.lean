/- What is well formed, as a model: size, depth, predicates, room, policies and rules; no conditions. -/
import Derived.Test.YtipiepcbgjceaaaP1
set_option linter.unusedVariables false
set_option linter.unusedSimpArgs false
namespace Go.Proofs.Ytipiepcbgjceaaa

def sizeP : Pl → Nat
  | .mk _ _ _ kids => sizeL kids + 1
  where sizeL : List Pl → Nat
  | [] => 0
  | p :: r => sizeP p + sizeL r
def depthP : Pl → Nat
  | .mk _ _ _ kids => depthL kids + 1
  where depthL : List Pl → Nat
  | [] => 0
  | p :: r => max (depthP p) (depthL r)
/-- An Op that is a predicate's whatever its kids are. -/
def opB (op : Int) : Bool := decide (op = 0) || decide (op = 1) || decide (op = 2) || decide (op = 3) || decide (op = 4)
def opM (op : Int) : Bool := decide (op = 6) || decide (op = 7)
def predP : Pl → Bool
  | .mk op _ _ kids => opB op || (opM op && predL kids)
  where predL : List Pl → Bool
  | [] => true
  | p :: r => predP p && predL r
def roomP : Pl → Int → Int → Int
  | .mk _ _ _ kids, n, l => if l = 0 then -1 else roomL kids (n - 1) (l - 1)
  where roomL : List Pl → Int → Int → Int
  | [], n, _ => n
  | p :: r, n, l => if n < 0 then n else roomL r (roomP p n l) l
def pred0 : List Pl → Bool
  | [] => false
  | p :: _ => predP p
/-- A node, of its kids only how many they are, and whether a Not's is a predicate. -/
def nodeB (parts : Int) (op f n : Int) (kids : List Pl) : Bool :=
  if op = 0 ∨ op = 1 then decide (kids.length = 0) && (decide (f = 0) && decide (n = 0))
  else if op = 2 then decide (kids.length = 0) && (decide (0 ≤ f) && decide (f < 8))
  else if op = 3 then decide (kids.length = 0) && (decide (0 ≤ f) && decide (f < parts))
  else if op = 5 then decide (kids.length = 0) && (decide (1 ≤ f) && decide (f < 8))
  else if op = 4 then decide (kids.length = 1) && (decide (f = 0) && decide (n = 0)) && pred0 kids
  else if op = 6 ∨ op = 7 then decide (2 ≤ kids.length) && (decide (f = 0) && decide (n = 0))
  else false
def formP (parts : Int) : Pl → Bool
  | .mk op f n kids => nodeB parts op f n kids && formL kids
  where formL : List Pl → Bool
  | [] => true
  | p :: r => formP parts p && formL r
/-- Rising from a number on, each once, below a bound. -/
def riseB : Int → Int → List Pr → Bool
  | _, _, [] => true
  | least, e, c :: r => decide (least ≤ c.1) && decide (c.1 < e) && riseB (c.1 + 1) e r
def portB (l : List Pr) : Bool := match l with
  | a :: b :: _ => decide (a.1 = 0) && decide (b.1 = 1)
  | _ => false
def ruleB (parts : Int) (r : Rl) : Bool := riseB 0 8 r.when && portB r.when && riseB 0 parts r.guard && riseB 0 parts r.thn && decide (0 < r.thn.length)
def longB (p : Pg) : Bool := decide (p.init.length = 0) || decide (4 < p.init.length) || decide (24 < p.rules.length) || decide (300 < sizeP p.pol) || decide (20 < depthP p.pol)
def checkM (p : Pg) : Nat := if longB p then 2 else if formP p.init.length p.pol && p.rules.all (ruleB p.init.length) then 0 else 11

theorem sizeP_mk (o f n : Int) (k : List Pl) : sizeP (.mk o f n k) = sizeP.sizeL k + 1 := by rw [sizeP]
theorem depthP_mk (o f n : Int) (k : List Pl) : depthP (.mk o f n k) = depthP.depthL k + 1 := by rw [depthP]
theorem sizeL_app : ∀ a b : List Pl, sizeP.sizeL (a ++ b) = sizeP.sizeL a + sizeP.sizeL b
  | [], b => by simp [sizeP.sizeL]
  | x :: r, b => by rw [List.cons_append, sizeP.sizeL, sizeP.sizeL, sizeL_app r b]; omega
theorem depthL_app : ∀ a b : List Pl, depthP.depthL (a ++ b) = max (depthP.depthL a) (depthP.depthL b)
  | [], b => by simp [depthP.depthL]
  | x :: r, b => by rw [List.cons_append, depthP.depthL, depthP.depthL, depthL_app r b]; omega
theorem predL_app : ∀ a b : List Pl, predP.predL (a ++ b) = (predP.predL a && predP.predL b)
  | [], b => by simp [predP.predL]
  | x :: r, b => by rw [List.cons_append, predP.predL, predP.predL, predL_app r b, Bool.and_assoc]
theorem formL_app (parts : Int) : ∀ a b : List Pl, formP.formL parts (a ++ b) = (formP.formL parts a && formP.formL parts b)
  | [], b => by simp [formP.formL]
  | x :: r, b => by rw [List.cons_append, formP.formL, formP.formL, formL_app parts r b, Bool.and_assoc]
theorem size_pos : ∀ p : Pl, 1 ≤ sizeP p
  | .mk _ _ _ k => by rw [sizeP]; omega
theorem len_le : ∀ k : List Pl, k.length ≤ sizeP.sizeL k
  | [] => by simp [sizeP.sizeL]
  | p :: r => by have := len_le r; have := size_pos p; rw [sizeP.sizeL, List.length_cons]; omega
theorem size_get : ∀ (k : List Pl) (i : Nat) (h : i < k.length), sizeP k[i] ≤ sizeP.sizeL k
  | p :: r, 0, _ => by rw [sizeP.sizeL, List.getElem_cons_zero]; omega
  | p :: r, i + 1, h => by have := size_get r i (by simpa using h); rw [sizeP.sizeL, List.getElem_cons_succ]; omega
theorem take_snocP (k : List Pl) (i : Nat) (h : i < k.length) : k.take (i + 1) = k.take i ++ [k[i]] := by
  rw [List.take_succ_eq_append_getElem h]
theorem sizeL_take (k : List Pl) (i : Nat) (h : i < k.length) : sizeP.sizeL (k.take (i + 1)) = sizeP.sizeL (k.take i) + sizeP k[i] := by
  rw [take_snocP k i h, sizeL_app]; simp [sizeP.sizeL]
theorem depthL_take (k : List Pl) (i : Nat) (h : i < k.length) : depthP.depthL (k.take (i + 1)) = max (depthP.depthL (k.take i)) (depthP k[i]) := by
  rw [take_snocP k i h, depthL_app]; simp [depthP.depthL]
theorem predL_take (k : List Pl) (i : Nat) (h : i < k.length) : predP.predL (k.take (i + 1)) = (predP.predL (k.take i) && predP k[i]) := by
  rw [take_snocP k i h, predL_app]; simp [predP.predL]
theorem formL_take (parts : Int) (k : List Pl) (i : Nat) (h : i < k.length) : formP.formL parts (k.take (i + 1)) = (formP.formL parts (k.take i) && formP parts k[i]) := by
  rw [take_snocP k i h, formL_app]; simp [formP.formL]
theorem take_le_size (k : List Pl) (i : Nat) : sizeP.sizeL (k.take i) ≤ sizeP.sizeL k := by
  have := sizeL_app (k.take i) (k.drop i)
  rw [List.take_append_drop] at this
  omega
theorem predL_false (k : List Pl) (i : Nat) (h : i < k.length) (hp : predP k[i] = false) : predP.predL k = false := by
  have := predL_app (k.take (i + 1)) (k.drop (i + 1))
  rw [List.take_append_drop, predL_take k i h, hp] at this
  simpa using this
theorem formL_false (parts : Int) (k : List Pl) (i : Nat) (h : i < k.length) (hp : formP parts k[i] = false) : formP.formL parts k = false := by
  have := formL_app parts (k.take (i + 1)) (k.drop (i + 1))
  rw [List.take_append_drop, formL_take parts k i h, hp] at this
  simpa using this
theorem depth_le : ∀ p : Pl, depthP p ≤ sizeP p
  | .mk _ _ _ k => by have := depthL_le k; rw [depthP, sizeP]; omega
  where depthL_le : ∀ k : List Pl, depthP.depthL k ≤ sizeP.sizeL k
  | [] => by simp [depthP.depthL, sizeP.sizeL]
  | p :: r => by have := depth_le p; have := depthL_le r; rw [depthP.depthL, sizeP.sizeL]; omega
/-! ### Room -/
theorem room_is : ∀ (p : Pl) (n l : Int), 0 ≤ n → 0 ≤ l → ((sizeP p : Int) ≤ n ∧ (depthP p : Int) ≤ l → roomP p n l = n - sizeP p) ∧ (¬ ((sizeP p : Int) ≤ n ∧ (depthP p : Int) ≤ l) → roomP p n l < 0)
  | .mk o f m k, n, l, hn, hl => by
    rw [sizeP_mk, depthP_mk, roomP]
    by_cases h0 : l = 0
    · rw [if_pos h0]; omega
    · rw [if_neg h0]
      have := roomL_is k (n - 1) (l - 1) (by omega) (by omega)
      omega
  where roomL_is : ∀ (k : List Pl) (n l : Int), -1 ≤ n → 0 ≤ l → ((sizeP.sizeL k : Int) ≤ n ∧ (depthP.depthL k : Int) ≤ l → roomP.roomL k n l = n - sizeP.sizeL k) ∧ (¬ ((sizeP.sizeL k : Int) ≤ n ∧ (depthP.depthL k : Int) ≤ l) → roomP.roomL k n l < 0)
  | [], n, l, hn, hl => by
    rw [roomP.roomL, sizeP.sizeL, depthP.depthL]; omega
  | p :: r, n, l, hn, hl => by
    rw [roomP.roomL, sizeP.sizeL, depthP.depthL]
    have hs := size_pos p
    by_cases h0 : n < 0
    · rw [if_pos h0]; omega
    · rw [if_neg h0]
      have h1 := room_is p n l (by omega) hl
      by_cases h2 : (sizeP p : Int) ≤ n ∧ (depthP p : Int) ≤ l
      · have h3 := h1.1 h2
        have h4 := roomL_is r (roomP p n l) l (by omega) hl
        omega
      · have h3 := h1.2 h2
        have h5 : roomP.roomL r (roomP p n l) l < 0 := by
          cases r with
          | nil => rw [roomP.roomL]; exact h3
          | cons q s => rw [roomP.roomL, if_pos h3]; exact h3
        omega
theorem room_neg (p : Pl) : decide (roomP p 300 20 < 0) = (decide (300 < sizeP p) || decide (20 < depthP p)) := by
  have h := room_is p 300 20 (by omega) (by omega)
  by_cases h2 : (sizeP p : Int) ≤ 300 ∧ (depthP p : Int) ≤ 20
  · have := h.1 h2
    have e1 : ¬ 300 < sizeP p := by omega
    have e2 : ¬ 20 < depthP p := by omega
    have e3 : ¬ roomP p 300 20 < 0 := by omega
    simp [e1, e2, e3]
  · have := h.2 h2
    have e : 300 < sizeP p ∨ 20 < depthP p := by omega
    simp only [this, decide_true]
    rcases e with e | e <;> simp [e]
end Go.Proofs.Ytipiepcbgjceaaa
/- What Depth and Size answer, the program's and the document's; policies of up to 100000 nodes. -/
set_option linter.unusedVariables false
set_option linter.unusedSimpArgs false
namespace Go.Proofs.Ytipiepcbgjceaaa
open Go.RowKit Go.Joins

/-- A policy's cells and kids. -/
theorem PolAt.open {P : Nat → Prop} {w : World} {op f n : Int} {kids : List Pl} {x : Nd} (h : PolAt P w (.mk op f n kids) x) :
    ∃ sa sc, x = ⟨op, f, n, .slice sa kids.length sc⟩ ∧ ∀ k (hk : k < kids.length), ∃ b off sa2 n2 sc2 y0 y1 y2, sa = some ⟨b, off, none⟩ ∧ b < w.heap.size ∧ At4 w b (off + k * 4) ⟨y0, y1, y2, .slice sa2 n2 sc2⟩ ∧ PolAt P w kids[k] ⟨y0, y1, y2, .slice sa2 n2 sc2⟩ := by
  unfold PolAt at h
  obtain ⟨h1, h2, h3, sa, sc, h4, h5⟩ := h
  obtain ⟨xo, xf, xn, xk⟩ := x
  dsimp only at h1 h2 h3 h4
  subst h1 h2 h3 h4
  refine ⟨sa, sc, rfl, fun k hk => ?_⟩
  obtain ⟨b, off, e, _, hb, hK⟩ := h5 (fun e => by rw [e] at hk; simp at hk)
  obtain ⟨y, ha, hp⟩ := PolAt.KidsAt.get kids off hK k hk
  obtain ⟨_, _, _, sa2, sc2, e2⟩ := hp.shape
  obtain ⟨y0, y1, y2, yk⟩ := y
  dsimp only at e2
  subst e2
  exact ⟨b, off, sa2, _, sc2, y0, y1, y2, e, hb, ha, hp⟩

end Go.Proofs.Ytipiepcbgjceaaa
