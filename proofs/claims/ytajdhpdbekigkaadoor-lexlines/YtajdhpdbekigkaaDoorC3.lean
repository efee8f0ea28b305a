/- Two texts in lines of their own: what Tokens answers of both together, by what it answers of each; texts of up to 500 bytes, a remark of up to 100. -/
import Derived.Test.YtajdhpdbekigkaaDoorC2
set_option linter.unusedVariables false
set_option linter.unusedSimpArgs false
namespace Go.Proofs.YtajdhpdbekigkaaDoor
open Go.RowKit Go.Joins Go.Lib

/-- What Tokens answers of a text. -/
def TM (s : List UInt8) (r : Except Nat (List Tk)) : Prop := (validD s = false ∧ r = .error 10) ∨ ∃ cs, Good cs ∧ s = fl cs ∧ r = lexS 0 cs
theorem TM.ex (s : List UInt8) : ∃ r, TM s r := by
  cases hv : validD s with
  | false => exact ⟨_, .inl ⟨hv, rfl⟩⟩
  | true =>
    obtain ⟨cs, hg, hcs⟩ := valid_split s.length s (Nat.le_refl _) hv
    exact ⟨_, .inr ⟨cs, hg, hcs, rfl⟩⟩
theorem TM.call {s : List UInt8} {r : Except Nat (List Tk)} (h : TM s r) (hl : s.length ≤ 4000) (w : World) (hE : Env w) : Calls Tryd.prog 8 #[str s] w fun e w' => TokRes r e w' ∧ Below w.heap.size w w' := by
  rcases h with ⟨hv, rfl⟩ | ⟨cs, hg, rfl, rfl⟩
  · exact tokens_bad s hl hv w hE
  · exact tokens_good cs hg hl w hE
theorem TM.err {s : List UInt8} {e : Nat} (h : TM s (.error e)) : e ≠ 0 ∧ e < 1000 := by
  rcases h with ⟨_, h⟩ | ⟨cs, _, _, h⟩
  · cases h; decide
  · exact lex_err cs 0 e h.symm
theorem TM.len {s : List UInt8} {l : List Tk} (h : TM s (.ok l)) : l.length ≤ 6 * s.length := by
  rcases h with ⟨_, h⟩ | ⟨cs, hg, rfl, h⟩
  · cases h
  · obtain ⟨h1, h2⟩ := lex_toks cs 0 l hg h.symm
    rw [List.drop_zero] at h2
    have := jn_len l (fun t ht => (h1 t ht).1)
    omega
/-- Both texts, with a remark between. -/
def both (a rem b : List UInt8) : List UInt8 := a ++ 10 :: 35 :: (rem ++ 10 :: b)
theorem both_valid (a rem b : List UInt8) (hr : ∀ c ∈ rem, c.toNat < 128) : validD (both a rem b) = (validD a && validD b) := by
  have hrv : validD rem = true := by
    have := good_valid (asc rem) (good_asc rem hr)
    rwa [fl_asc] at this
  unfold both
  rw [valid_cut 10 (by decide) _ a.length a (Nat.le_refl _), validD_cons 35 _ (by decide), valid_cut 10 (by decide) b rem.length rem (Nat.le_refl _), hrv, Bool.true_and]
theorem TM.both {a rem b : List UInt8} {ra rb : Except Nat (List Tk)} (ha : TM a ra) (hb : TM b rb) (hr : ∀ c ∈ rem, c.toNat < 128 ∧ c.toNat ≠ 10) :
    ∃ rz, TM (both a rem b) rz ∧ (rz = cat ra rb ∨ ∃ eb, rb = .error eb ∧ rz = .error eb) := by
  have hv := both_valid a rem b (fun c hc => (hr c hc).1)
  rcases ha with ⟨hva, rfl⟩ | ⟨A, hA, rfl, rfl⟩
  · rw [hva, Bool.false_and] at hv
    exact ⟨.error 10, .inl ⟨hv, rfl⟩, .inl rfl⟩
  · rcases hb with ⟨hvb, rfl⟩ | ⟨B, hB, rfl, rfl⟩
    · rw [hvb, Bool.and_false] at hv
      exact ⟨.error 10, .inl ⟨hv, rfl⟩, .inr ⟨10, rfl, rfl⟩⟩
    · have h10 : good (10, [10]) := good_ascii 10 (by decide)
      have h35 : good (35, [35]) := good_ascii 35 (by decide)
      have hrem : Good (asc rem) := good_asc rem (fun c hc => (hr c hc).1)
      refine ⟨_, .inr ⟨A ++ (10, [10]) :: (35, [35]) :: (asc rem ++ (10, [10]) :: B), hA.append (Good.cons h10 (Good.cons h35 (hrem.append (Good.cons h10 hB)))), ?_, rfl⟩, .inl ?_⟩
      · unfold Proofs.YtajdhpdbekigkaaDoor.both
        rw [fl_append, fl_cons, fl_cons, fl_append, fl_cons, fl_asc]
        rfl
      · refine lex_lines A B (asc rem) (fun x hx => ?_)
        obtain ⟨c, hc, rfl⟩ := List.mem_map.1 hx
        exact (hr c hc).2
theorem both_len (a rem b : List UInt8) : (both a rem b).length = a.length + rem.length + b.length + 3 := by
  unfold both
  simp only [List.length_append, List.length_cons]; omega
theorem both_cat (a rem b : List UInt8) : (⟨a.toArray⟩ : ByteArray) ++ ⟨#[10, 35]⟩ ++ ⟨rem.toArray⟩ ++ ⟨#[10]⟩ ++ ⟨b.toArray⟩ = ⟨(both a rem b).toArray⟩ := by
  have e1 : (⟨#[10, 35]⟩ : ByteArray) = ⟨([10, 35] : List UInt8).toArray⟩ := rfl
  have e2 : (⟨#[10]⟩ : ByteArray) = ⟨([10] : List UInt8).toArray⟩ := rfl
  rw [e1, e2, cat_str, cat_str, cat_str, cat_str]
  unfold both
  simp
end Go.Proofs.YtajdhpdbekigkaaDoor
