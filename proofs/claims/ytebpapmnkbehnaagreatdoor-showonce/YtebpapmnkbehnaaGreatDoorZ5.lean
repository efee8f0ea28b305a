/- The reader's model reads a policy's tokens as that policy: of every policy that is well formed and whose numbers are of 16 bits. -/
import Derived.Test.YtebpapmnkbehnaaGreatDoorZ3
set_option linter.unusedVariables false
set_option linter.unusedSimpArgs false
namespace Go.Proofs.YtebpapmnkbehnaaGreatDoor

def St.adv (σ : St) (k : Nat) : St := { σ with pos := σ.pos + k }
theorem adv_zero (σ : St) : σ.adv 0 = σ := rfl
theorem adv_next (σ : St) : σ.next = σ.adv 1 := rfl
theorem adv_adv (σ : St) (a b : Nat) : (σ.adv a).adv b = σ.adv (a + b) := by
  show ({ σ with pos := σ.pos + a + b } : St) = { σ with pos := σ.pos + (a + b) }
  rw [Nat.add_assoc]
/-- These tokens are to come. -/
def Dr (L : List Tk) (σ : St) (ts : List Tk) : Prop := L.drop σ.pos = ts
theorem Dr.tok {L : List Tk} {σ : St} {t : Tk} {r : List Tk} (h : Dr L σ (t :: r)) : tokAt L σ = t := by
  unfold tokAt
  have : L[σ.pos]? = some t := by
    have e : (L.drop σ.pos)[0]? = L[σ.pos]? := by rw [List.getElem?_drop]; rfl
    rw [← e, show L.drop σ.pos = t :: r from h]; rfl
  rw [List.getD_eq_getElem?_getD, this]; rfl
theorem Dr.adv {L : List Tk} {σ : St} {a b : List Tk} (h : Dr L σ (a ++ b)) : Dr L (σ.adv a.length) b := by
  show L.drop (σ.pos + a.length) = b
  rw [← List.drop_drop, show L.drop σ.pos = a ++ b from h, List.drop_left]
theorem Dr.next {L : List Tk} {σ : St} {t : Tk} {r : List Tk} (h : Dr L σ (t :: r)) : Dr L σ.next r := Dr.adv (a := [t]) h
theorem Dr.len {L : List Tk} {σ : St} {a : List Tk} (h : Dr L σ a) : a.length ≤ L.length := by
  rw [← show L.drop σ.pos = a from h, List.length_drop]; omega
/-- The text of the token to come. -/
def hdS (B : List Tk) : List UInt8 := (B.headD tkEnd).s
theorem Dr.is {L : List Tk} {σ : St} {t : Tk} {r : List Tk} (h : Dr L σ (t :: r)) (s : List UInt8) : isNext L s σ = decide (t.s = s) := by
  unfold isNext; rw [h.tok]
theorem Dr.isB {L : List Tk} {σ : St} {B : List Tk} (h : Dr L σ B) (s : List UInt8) (hs : hdS B ≠ s) : isNext L s σ = false := by
  unfold isNext
  cases B with
  | nil =>
    have : tokAt L σ = tkEnd := by
      unfold tokAt
      rw [List.getD_eq_getElem?_getD, List.getElem?_eq_none]
      · rfl
      · have : (L.drop σ.pos).length = 0 := by rw [show L.drop σ.pos = [] from h]; rfl
        rw [List.length_drop] at this
        omega
    rw [this]
    exact decide_eq_false hs
  | cons t r => rw [h.tok]; exact decide_eq_false hs
theorem Dr.takes {L : List Tk} {σ : St} {t : Tk} {r : List Tk} (h : Dr L σ (t :: r)) : needsM L t.s σ = σ.next := by
  unfold needsM; rw [h.is, if_pos (by simp)]
theorem Dr.num {L : List Tk} {σ : St} {n : Nat} {r : List Tk} (h : Dr L σ (nb n :: r)) : numberM L σ = (n, σ.next) := by
  unfold numberM isNum
  rw [h.tok]; rfl
theorem Dr.val {L : List Tk} {σ : St} {n : Nat} {r : List Tk} (h : Dr L σ (nb n :: r)) : valueM L σ = (n, σ.next) := by
  unfold valueM
  rw [show isNum L σ = true by unfold isNum; rw [h.tok]; rfl, if_pos rfl]
  exact h.num
theorem Dr.part {L : List Tk} {σ : St} {a n : Nat} {s : List UInt8} {r : List Tk} (h : Dr L σ (nb a :: sn s :: nb n :: r)) : partM L s σ = (((a : Int), n), σ.adv 3) := by
  have h1 := h.next
  have h2 := h1.next
  unfold partM
  rw [h.num]
  dsimp only
  have e : needsM L s σ.next = σ.next.next := h1.takes
  rw [e, h2.val]
  rfl
theorem nm_facts (f : Int) (h0 : 0 ≤ f) (h8 : f < 8) : fldB (nmB f) = true ∧ fldI (nmB f) = f ∧ nmB f ≠ [33] ∧ nmB f ≠ [105, 100] ∧ nmB f ≠ [100, 114, 111, 112] ∧ nmB f ≠ [40] ∧ nmB f ≠ [64] := by
  have : f = 0 ∨ f = 1 ∨ f = 2 ∨ f = 3 ∨ f = 4 ∨ f = 5 ∨ f = 6 ∨ f = 7 := by omega
  rcases this with rfl | rfl | rfl | rfl | rfl | rfl | rfl | rfl <;> exact ⟨by decide +kernel, by decide +kernel, by decide, by decide, by decide, by decide, by decide⟩
theorem Dr.field {L : List Tk} {σ : St} {f : Int} {r : List Tk} (h : Dr L σ (wd (nmB f) :: r)) (h0 : 0 ≤ f) (h8 : f < 8) : fieldM L σ = (f, σ.next) := by
  have hf := nm_facts f h0 h8
  unfold fieldM isField
  rw [h.tok]
  show (if fldB (nmB f) = true then (fldI (nmB f), σ.next) else _) = _
  rw [hf.1, hf.2.1]; rfl
theorem unary_atom {L : List Tk} {S : St → Pl × St} {m : Nat} {σ : St} {t : Tk} {r : List Tk} (hm : 1 ≤ m) (h : Dr L σ (t :: r)) (ht : t.s ≠ [33]) : unaryM L S m σ = atomM L S σ := by
  obtain ⟨m, rfl⟩ : ∃ k, m = k + 1 := ⟨m - 1, by omega⟩
  rw [unaryM, h.is, if_neg (by simp [ht])]
/-- Leaves. -/
theorem atom_leaf {L : List Tk} {S : St → Pl × St} {σ : St} {B : List Tk} (parts op f n : Int) (hop : op = 0 ∨ op = 1 ∨ op = 2 ∨ op = 3 ∨ op = 5) (hf : formP parts (.mk op f n []) = true) (hn : 0 ≤ n) (h : Dr L σ (toksP (.mk op f n []) ++ B)) : atomM L S σ = (.mk op f n [], σ.adv (toksP (.mk op f n [])).length) ∧ ∃ t r, toksP (.mk op f n []) ++ B = t :: r ∧ t.s ≠ [33] := by
  rw [formP_mk, Bool.and_eq_true] at hf
  have hf := hf.1
  have hnn : ((n.toNat : Nat) : Int) = n := by omega
  rw [toksP_mk] at h ⊢
  unfold nodeB at hf
  rcases hop with rfl | rfl | rfl | rfl | rfl
  · simp at hf h ⊢
    obtain ⟨rfl, rfl⟩ := hf
    refine ⟨?_, by decide⟩
    unfold atomM
    rw [h.is, h.is, if_neg (by decide), if_pos (by decide)]; rfl
  · simp at hf h ⊢
    obtain ⟨rfl, rfl⟩ := hf
    refine ⟨?_, by decide⟩
    unfold atomM
    rw [h.is, if_pos (by decide)]; rfl
  · simp at hf h ⊢
    obtain ⟨n1, n2, n3, n4, n5, n6, n7⟩ := nm_facts f hf.1 hf.2
    refine ⟨?_, n3⟩
    change (wd (nmB f)).s ≠ _ at n4 n5 n6 n7
    have h1 := h.next
    have h2 := h1.next
    unfold atomM
    rw [h.is, h.is, h.is, h.is, if_neg (fun e => n4 (of_decide_eq_true e)), if_neg (fun e => n5 (of_decide_eq_true e)), if_neg (fun e => n6 (of_decide_eq_true e)), if_neg (fun e => n7 (of_decide_eq_true e)), h.field hf.1 hf.2]
    dsimp only
    rw [h1.is, if_neg (by decide), show needsM L [61] σ.next = σ.next.next from h1.takes, h2.val]
    dsimp only
    rw [hnn]; rfl
  · simp at hf h ⊢
    refine ⟨?_, by decide⟩
    have h1 := h.next
    unfold atomM
    rw [h.is, h.is, h.is, h.is, if_neg (by decide), if_neg (by decide), if_neg (by decide), if_pos (by decide), h1.part]
    dsimp only
    have e : ((f.toNat : Nat) : Int) = f := by omega
    rw [hnn, e]
    rw [show σ.next.adv 3 = σ.adv 4 by rw [adv_next, adv_adv]]
  · simp at hf h ⊢
    obtain ⟨n1, n2, n3, n4, n5, n6, n7⟩ := nm_facts f (by omega) hf.2
    refine ⟨?_, n3⟩
    change (wd (nmB f)).s ≠ _ at n4 n5 n6 n7
    have h1 := h.next
    have h2 := h1.next
    unfold atomM
    rw [h.is, h.is, h.is, h.is, if_neg (fun e => n4 (of_decide_eq_true e)), if_neg (fun e => n5 (of_decide_eq_true e)), if_neg (fun e => n6 (of_decide_eq_true e)), if_neg (fun e => n7 (of_decide_eq_true e)), h.field (by omega) hf.2]
    dsimp only
    rw [h1.is, if_pos (by decide), h2.val]
    dsimp only
    rw [hnn]; rfl

/-! ### Kids, with a sign between -/
/-- A reader reads these tokens as that policy, where what follows is right. -/
def Rds (L : List Tk) (g : St → Pl × St) (ok : List Tk → Prop) (p : Pl) (T : List Tk) : Prop := ∀ σ B, Dr L σ (T ++ B) → ok B → g σ = (p, σ.adv T.length)
theorem many_reads {L : List Tk} {s : List UInt8} {g : St → Pl × St} {ok : List Tk → Prop} (tk : Pl → List Tk) (hsg : ∀ r, ok (sn s :: r)) : ∀ (r acc : List Pl) (fuel : Nat) (σ : St) (B : List Tk), r.length ≤ fuel → (∀ k ∈ r, Rds L g ok k (tk k)) →
    Dr L σ ((r.flatMap fun k => sn s :: tk k) ++ B) → ok B → hdS B ≠ s → manyM L s g fuel acc σ = (acc ++ r, σ.adv (r.flatMap fun k => sn s :: tk k).length)
  | [], acc, fuel, σ, B, _, _, h, hB, hs => by
    have h0 := Dr.isB (B := B) h s hs
    have : manyM L s g fuel acc σ = (acc, σ) := by
      cases fuel with
      | zero => rfl
      | succ k => rw [manyM, if_neg (by rw [h0]; decide)]
    rw [this, List.append_nil]; rfl
  | k :: r, acc, 0, σ, B, hf, _, _, _, _ => by simp at hf
  | k :: r, acc, fuel + 1, σ, B, hf, hr, h, hB, hs => by
    rw [List.flatMap_cons] at h ⊢
    have h1 : Dr L σ (sn s :: (tk k ++ ((r.flatMap fun k => sn s :: tk k) ++ B))) := by simpa using h
    have hnext : ok ((r.flatMap fun k => sn s :: tk k) ++ B) := by
      cases r with
      | nil => exact hB
      | cons k' r' => exact hsg _
    have h2 := hr k (List.mem_cons_self ..) σ.next _ h1.next hnext
    have ih := many_reads tk hsg r (acc ++ [k]) fuel (σ.next.adv (tk k).length) B (by simpa using hf) (fun k' hk' => hr k' (List.mem_cons_of_mem _ hk')) (h1.next.adv) hB hs
    rw [manyM, h1.is, if_pos (by simp [sn]), h2]
    dsimp only
    rw [ih, List.append_assoc, List.singleton_append, adv_next, adv_adv, adv_adv]
    congr 2
    simp only [List.length_append, List.length_cons]
    omega
theorem list_reads {L : List Tk} {s : List UInt8} {op : Int} {g : St → Pl × St} {ok : List Tk → Prop} (tk : Pl → List Tk) (hsg : ∀ r, ok (sn s :: r)) (k : Pl) (r : List Pl) (hr : r ≠ []) (hg : ∀ q ∈ k :: r, Rds L g ok q (tk q)) :
    Rds L (listM L s op g) (fun B => ok B ∧ hdS B ≠ s) (.mk op 0 0 (k :: r)) (tk k ++ r.flatMap fun q => sn s :: tk q) := by
  intro σ B h ⟨hB, hs⟩
  rw [List.append_assoc] at h
  have hnext : ok ((r.flatMap fun q => sn s :: tk q) ++ B) := by
    cases r with
    | nil => exact hB
    | cons k' r' => exact hsg _
  have h1 := hg k (List.mem_cons_self ..) σ _ h hnext
  have hl : r.length ≤ L.length := by
    have h3 := h.adv.len
    have h4 : r.length ≤ (r.flatMap fun q => sn s :: tk q).length := by
      clear h h1 hnext hg hr h3
      induction r with
      | nil => simp
      | cons a t ih => simp only [List.flatMap_cons, List.length_append, List.length_cons] at ih ⊢; omega
    rw [List.length_append] at h3
    omega
  have h2 := many_reads tk hsg r [k] L.length _ B hl (fun q hq => hg q (List.mem_cons_of_mem _ hq)) h.adv hB hs
  unfold listM
  rw [h1]
  dsimp only
  rw [h2, adv_adv, List.length_append]
  show (joinedM op (k :: r), _) = _
  have : joinedM op (k :: r) = .mk op 0 0 (k :: r) := by
    cases r with
    | nil => exact absurd rfl hr
    | cons a t => rfl
  rw [this]
theorem list_single {L : List Tk} {s : List UInt8} {op : Int} {g : St → Pl × St} {ok : List Tk → Prop} {p : Pl} {T : List Tk} (h : Rds L g ok p T) : Rds L (listM L s op g) (fun B => ok B ∧ hdS B ≠ s) p T := by
  intro σ B hd ⟨hB, hs⟩
  have h1 := h σ B hd hB
  have h2 := many_reads (L := L) (s := s) (g := g) (ok := fun _ => True) (fun _ => []) (fun _ => trivial) [] [p] L.length (σ.adv T.length) B (Nat.zero_le _) (fun k hk => by cases hk) hd.adv trivial hs
  unfold listM
  rw [h1]
  dsimp only
  rw [h2]; rfl
theorem joinS_sep (s : List UInt8) (tk : Pl → List Tk) (k : Pl) (r : List Pl) : joinS [sn s] ((k :: r).map tk) = tk k ++ r.flatMap fun q => sn s :: tk q := by
  show tk k ++ (r.map tk).flatMap _ = _
  rw [List.flatMap_map]; rfl
theorem partsK_map (op : Int) : ∀ kids : List Pl, toksP.partsK op kids = kids.map fun k => wrapK (opW op k) (toksP k)
  | [] => rfl
  | k :: r => by rw [toksP.partsK, partsK_map op r]; rfl
def anyB (_ : List Tk) : Prop := True
def no59 (B : List Tk) : Prop := anyB B ∧ hdS B ≠ [59]
def no43 (B : List Tk) : Prop := no59 B ∧ hdS B ≠ [43]
/-- What is shown of one policy. -/
structure RdAll (L : List Tk) (p : Pl) : Prop where
  u : p.op ≠ 6 → p.op ≠ 7 → ∀ k m, depthP p ≤ k + 1 → depthP p ≤ m → depthP p ≤ L.length + 1 → Rds L (unaryM L (sumM L k) m) anyB p (toksP p)
  s : p.op ≠ 7 → ∀ k, depthP p ≤ k + 1 → depthP p ≤ L.length + 1 → Rds L (seqM L (sumM L k)) no59 p (toksP p)
  a : ∀ k, depthP p ≤ k + 1 → depthP p ≤ L.length + 1 → Rds L (sumM L (k + 1)) no43 p (toksP p)
theorem depth_pos (p : Pl) : 1 ≤ depthP p := by cases p; rw [depthP_mk]; omega
theorem depth_get : ∀ (kids : List Pl) (q : Pl), q ∈ kids → depthP q ≤ depthP.depthL kids
  | k :: r, q, h => by
    rw [depthP.depthL]
    rcases List.mem_cons.1 h with rfl | h
    · omega
    · have := depth_get r q h; omega
/-- A kid that may stand between ( and ). -/
theorem rd_wrap {L : List Tk} {q : Pl} (h : RdAll L q) (b : Bool) (hb : b = false → q.op ≠ 6 ∧ q.op ≠ 7) (k m : Nat) (hk : depthP q ≤ k) (hm : depthP q ≤ m) (hL : depthP q ≤ L.length + 1) : Rds L (unaryM L (sumM L k) m) anyB q (wrapK b (toksP q)) := by
  have hp := depth_pos q
  cases b with
  | false => exact h.u (hb rfl).1 (hb rfl).2 k m (by omega) hm hL
  | true =>
    intro σ B hd _
    have hd1 : Dr L σ (sn [40] :: (toksP q ++ (sn [41] :: B))) := by simpa [wrapK] using hd
    obtain ⟨k, rfl⟩ : ∃ j, k = j + 1 := ⟨k - 1, by omega⟩
    rw [unary_atom (by omega) hd1 (by decide)]
    have h1 := h.a k hk hL σ.next _ hd1.next ⟨⟨trivial, by show [41] ≠ _; decide⟩, by show [41] ≠ _; decide⟩
    have h2 := hd1.next.adv
    unfold atomM
    rw [hd1.is, hd1.is, hd1.is, if_neg (by decide), if_neg (by decide), if_pos (by decide), h1]
    dsimp only
    rw [show needsM L [41] (σ.next.adv (toksP q).length) = (σ.next.adv (toksP q).length).next from h2.takes]
    rw [adv_next, adv_next, adv_adv, adv_adv]
    simp only [wrapK, if_true, List.length_cons, List.length_append, List.length_nil]
    congr 2
    omega
theorem reads_all (L : List Tk) (parts : Int) : ∀ (n : Nat) (p : Pl), depthP p ≤ n → formP parts p = true → okN p → RdAll L p
  | 0, p, h, _, _ => absurd (depth_pos p) (by omega)
  | n + 1, .mk op f nn kids, hd, hf, hn => by
    have hf0 := hf
    rw [formP_mk, Bool.and_eq_true] at hf
    rw [depthP_mk] at hd
    have hn0 := hn
    rw [okN] at hn
    have hkid : ∀ q ∈ kids, RdAll L q := fun q hq => by
      obtain ⟨i, hi, rfl⟩ := List.getElem_of_mem hq
      exact reads_all L parts n kids[i] (by have := depth_get kids kids[i] hq; omega) (form_get parts kids hf.2 i hi) (okN_get kids hn.2 i hi)
    have hdep : ∀ q ∈ kids, depthP q + 1 ≤ depthP (.mk op f nn kids) := fun q hq => by
      rw [depthP_mk]; have := depth_get kids q hq; omega
    have hops : op = 0 ∨ op = 1 ∨ op = 2 ∨ op = 3 ∨ op = 5 ∨ op = 4 ∨ op = 6 ∨ op = 7 := by
      by_cases h : op = 0 ∨ op = 1 ∨ op = 2 ∨ op = 3 ∨ op = 5 ∨ op = 4 ∨ op = 6 ∨ op = 7
      · exact h
      · have h1 := hf.1
        unfold nodeB at h1
        rw [if_neg (by omega), if_neg (by omega), if_neg (by omega), if_neg (by omega), if_neg (by omega), if_neg (by omega)] at h1
        cases h1
    -- as one that is no sum and no sequence
    have hu : op ≠ 6 → op ≠ 7 → ∀ k m, depthP (.mk op f nn kids) ≤ k + 1 → depthP (.mk op f nn kids) ≤ m → depthP (.mk op f nn kids) ≤ L.length + 1 → Rds L (unaryM L (sumM L k) m) anyB (.mk op f nn kids) (toksP (.mk op f nn kids)) := by
      intro h6 h7 k m hk hm hL σ B hdr _
      have hp := depth_pos (.mk op f nn kids)
      by_cases h4 : op = 4
      · subst h4
        have hb : nodeB parts 4 f nn kids = (decide (kids.length = 1) && (decide (f = 0) && decide (nn = 0)) && pred0 kids) := by unfold nodeB; simp
        rw [hb] at hf
        simp only [Bool.and_eq_true, decide_eq_true_eq] at hf
        obtain ⟨⟨⟨hl, rfl, rfl⟩, -⟩, -⟩ := hf
        obtain ⟨q, rfl⟩ := List.length_eq_one_iff.1 hl
        have e : toksP (.mk 4 0 0 [q]) = sn [33] :: wrapK (opW 4 q) (toksP q) := by
          rw [toksP_mk]; simp [toksP.partsK, joinS]
        rw [e] at hdr ⊢
        have hq := hdep q (List.mem_singleton.2 rfl)
        have hdr1 : Dr L σ (sn [33] :: (wrapK (opW 4 q) (toksP q) ++ B)) := hdr
        obtain ⟨m, rfl⟩ : ∃ j, m = j + 1 := ⟨m - 1, by omega⟩
        have h1 := rd_wrap (hkid q (List.mem_singleton.2 rfl)) (opW 4 q) (fun e => by
          unfold opW at e
          simp only [Bool.or_eq_false_iff, decide_eq_false_iff_not] at e
          refine ⟨fun h => ?_, e.1⟩
          have := e.2
          simp [h] at this) k m (by omega) (by omega) (by omega) σ.next B hdr1.next trivial
        rw [unaryM, hdr1.is, if_pos (by decide), h1, adv_next, adv_adv, List.length_cons, Nat.add_comm 1]
      · have hkn : kids = [] := by
          have h1 := hf.1
          unfold nodeB at h1
          rcases hops with rfl | rfl | rfl | rfl | rfl | rfl | rfl | rfl
          all_goals first | omega | (simp at h1; exact h1.1)
        subst hkn
        obtain ⟨h1, t, r, h2, h3⟩ := atom_leaf (S := sumM L k) parts op f nn (by omega) hf0 hn.1.1 hdr
        rw [h2] at hdr
        rw [unary_atom (by omega) hdr h3, h1]
    -- as one that is no sum
    have hs : op ≠ 7 → ∀ k, depthP (.mk op f nn kids) ≤ k + 1 → depthP (.mk op f nn kids) ≤ L.length + 1 → Rds L (seqM L (sumM L k)) no59 (.mk op f nn kids) (toksP (.mk op f nn kids)) := by
      intro h7 k hk hL
      by_cases h6 : op = 6
      · subst h6
        have hb : nodeB parts 6 f nn kids = (decide (2 ≤ kids.length) && (decide (f = 0) && decide (nn = 0))) := by unfold nodeB; simp
        rw [hb] at hf
        simp only [Bool.and_eq_true, decide_eq_true_eq] at hf
        obtain ⟨⟨hl, rfl, rfl⟩, -⟩ := hf
        obtain ⟨q, r, rfl⟩ : ∃ q r, kids = q :: r := by
          cases kids with
          | nil => simp at hl
          | cons q r => exact ⟨q, r, rfl⟩
        have hr : r ≠ [] := fun e => by subst e; simp at hl
        have e : toksP (.mk 6 0 0 (q :: r)) = wrapK (opW 6 q) (toksP q) ++ r.flatMap fun k => sn [59] :: wrapK (opW 6 k) (toksP k) := by
          rw [toksP_mk, partsK_map]
          exact joinS_sep [59] (fun k => wrapK (opW 6 k) (toksP k)) q r
        rw [e]
        exact list_reads (fun k => wrapK (opW 6 k) (toksP k)) (fun _ => trivial) q r hr fun k' hk' => rd_wrap (hkid k' hk') (opW 6 k') (fun e => by
          unfold opW at e
          simp only [Bool.or_eq_false_iff, decide_eq_false_iff_not] at e
          refine ⟨fun h => ?_, e.1⟩
          have := e.2
          simp [h] at this) k (L.length + 1) (by have := hdep k' hk'; omega) (by have := hdep k' hk'; omega) (by have := hdep k' hk'; omega)
      · exact list_single (hu h6 h7 k (L.length + 1) hk (by omega) hL)
    refine ⟨hu, hs, fun k hk hL => ?_⟩
    by_cases h7 : op = 7
    · subst h7
      have hb : nodeB parts 7 f nn kids = (decide (2 ≤ kids.length) && (decide (f = 0) && decide (nn = 0))) := by unfold nodeB; simp
      rw [hb] at hf
      simp only [Bool.and_eq_true, decide_eq_true_eq] at hf
      obtain ⟨⟨hl, rfl, rfl⟩, -⟩ := hf
      obtain ⟨q, r, rfl⟩ : ∃ q r, kids = q :: r := by
        cases kids with
        | nil => simp at hl
        | cons q r => exact ⟨q, r, rfl⟩
      have hr : r ≠ [] := fun e => by subst e; simp at hl
      have e : toksP (.mk 7 0 0 (q :: r)) = wrapK (opW 7 q) (toksP q) ++ r.flatMap fun k => sn [43] :: wrapK (opW 7 k) (toksP k) := by
        rw [toksP_mk, partsK_map]
        exact joinS_sep [43] (fun k => wrapK (opW 7 k) (toksP k)) q r
      rw [e]
      have hg : ∀ k' ∈ q :: r, Rds L (seqM L (sumM L k)) no59 k' (wrapK (opW 7 k') (toksP k')) := fun k' hk' => by
        have hd' := hdep k' hk'
        by_cases h7' : k'.op = 7
        · have ho : opW 7 k' = true := by unfold opW; simp [h7']
          rw [ho]
          exact list_single (rd_wrap (hkid k' hk') true (fun e => by cases e) k (L.length + 1) (by omega) (by omega) (by omega))
        · have ho : opW 7 k' = false := by unfold opW; simp [h7']
          rw [ho]
          exact (hkid k' hk').s h7' k (by omega) (by omega)
      exact list_reads (fun k => wrapK (opW 7 k) (toksP k)) (fun _ => ⟨trivial, by show [43] ≠ _; decide⟩) q r hr hg
    · exact list_single (hs h7 k hk hL)
end Go.Proofs.YtebpapmnkbehnaaGreatDoor
