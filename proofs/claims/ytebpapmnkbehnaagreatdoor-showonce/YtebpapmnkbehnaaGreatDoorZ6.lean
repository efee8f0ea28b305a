/- The texts of rules and programs, as the document says them, and their tokens: of every program that is well formed and whose numbers are of 16 bits. -/
import Derived.Test.YtebpapmnkbehnaaGreatDoorZ5
import Derived.Test.YtebpapmnkbehnaaGreatDoorZ3
import Derived.Test.YtebpapmnkbehnaaGreatDoorP16
set_option linter.unusedVariables false
set_option linter.unusedSimpArgs false
namespace Go.Proofs.YtebpapmnkbehnaaGreatDoor
open Go.Lib

def whenK (c : Pr) : List Tk := [wd (nmB c.1), sn [61], nb c.2]
def guardK (c : Pr) : List Tk := [sn [64], nb c.1.toNat, sn [61], nb c.2]
def thenK (c : Pr) : List Tk := [sn [64], nb c.1.toNat, sn [58, 61], nb c.2]
def toksR (r : Rl) : List Tk := [wd [111, 110]] ++ (joinS [sn [38]] (r.when.map whenK ++ r.guard.map guardK) ++ ([sn [61, 62]] ++ (joinS [sn [38]] (r.thn.map thenK) ++ [sn [46]])))
def toksG (p : Pg) : List Tk := [wd [105, 110, 105, 116]] ++ (p.init.map nb ++ ([sn [46]] ++ ([wd [112, 111, 108, 105, 99, 121]] ++ (toksP p.pol ++ ([sn [46]] ++ p.rules.flatMap toksR)))))

/-! ### Their tokens -/
theorem lq_when (c : Pr) (h : 0 ≤ c.1 ∧ c.1 < 8) (hn : c.2 ≤ 65535) : Lq (whenT c) (whenK c) nw := (lq_word (nmB_small c.1 h.1 h.2)).cons (lq_eqnum c.2 hn) nw_61
theorem lq_guard (c : Pr) (h : c.1.toNat ≤ 65535) (hn : c.2 ≤ 65535) : Lq (guardT c) (guardK c) nw :=
  Lq.app (a := [64]) (la := [sn [64]]) (lq_sign 64 (by decide +kernel) (by decide) (by decide)) ((lq_num c.1.toNat h).cons (lq_eqnum c.2 hn) nw_61) fun _ _ => rfl
theorem lq_then (c : Pr) (h : c.1.toNat ≤ 65535) (hn : c.2 ≤ 65535) : Lq (thenT c) (thenK c) nw :=
  Lq.app (a := [64]) (la := [sn [64]]) (lq_sign 64 (by decide +kernel) (by decide) (by decide)) ((lq_num c.1.toNat h).cons (lq_putnum c.2 hn) nw_58) fun _ _ => rfl
theorem lq_amp : Lq [32, 38, 32] [sn [38]] anyC :=
  Lq.app (a := [32]) (la := []) (lq_blank 32 (by decide)) (Lq.app (a := [38]) (la := [sn [38]]) (lb := []) (lq_sign 38 (by decide +kernel) (by decide) (by decide)) (lq_blank 32 (by decide)) fun _ _ => rfl) fun _ _ => rfl
theorem lq_joinA : ∀ (a : List (List UInt8)) (b : List (List Tk)), a.length = b.length → (∀ i (h : i < a.length) (h' : i < b.length), Lq a[i] b[i] nw) → Lq (a.flatMap fun x => [32, 38, 32] ++ x) (b.flatMap fun x => [sn [38]] ++ x) nw
  | [], [], _, _ => lq_nil _
  | s :: r, [], h, _ => by simp at h
  | [], l :: t, h, _ => by simp at h
  | s :: r, l :: t, h, hi => by
    have h0 : Lq s l nw := hi 0 (by simp) (by simp)
    have ih := lq_joinA r t (by simpa using h) (fun i a b => hi (i + 1) (by simpa using a) (by simpa using b))
    have h1 : Lq ([32, 38, 32] ++ s) ([sn [38]] ++ l) nw := lq_amp.app h0 fun _ _ => rfl
    rw [List.flatMap_cons, List.flatMap_cons]
    refine h1.app ih fun C hC => ?_
    cases r with
    | nil => exact hC
    | cons s' r' => exact nw_32
theorem lq_joinB (a : List (List UInt8)) (b : List (List Tk)) (hl : a.length = b.length) (hi : ∀ i (h : i < a.length) (h' : i < b.length), Lq a[i] b[i] nw) : Lq (joinS [32, 38, 32] a) (joinS [sn [38]] b) nw := by
  cases a with
  | nil => cases b with
    | nil => exact lq_nil _
    | cons l t => simp at hl
  | cons s r => cases b with
    | nil => simp at hl
    | cons l t =>
      have h0 : Lq s l nw := hi 0 (by simp) (by simp)
      have ih := lq_joinA r t (by simpa using hl) (fun i a b => hi (i + 1) (by simpa using a) (by simpa using b))
      show Lq (s ++ r.flatMap _) (l ++ t.flatMap _) nw
      refine h0.app ih fun C hC => ?_
      cases r with
      | nil => exact hC
      | cons s' r' => exact nw_32
theorem lq_dot : Lq [32, 46] [sn [46]] anyC := Lq.app (a := [32]) (la := []) (lq_blank 32 (by decide)) (lq_sign 46 (by decide +kernel) (by decide) (by decide)) fun _ _ => rfl
theorem lq_dotl : Lq [32, 46, 10] [sn [46]] anyC := Lq.app (a := [32, 46]) (lb := []) lq_dot (lq_blank 10 (by decide)) fun _ _ => rfl
theorem lq_to : Lq [32, 61, 62, 32] [sn [61, 62]] anyC :=
  Lq.app (a := [32]) (la := []) (lq_blank 32 (by decide)) (Lq.app (a := [61, 62]) (lb := []) lq_arrow (lq_blank 32 (by decide)) fun _ _ => rfl) fun _ _ => rfl
theorem lq_rule (parts : Int) (hp : parts ≤ 65535) (r : Rl) (h : RlN parts r) : Lq (ruleT r) (toksR r) anyC := by
  obtain ⟨h1, -, h3, h4, -⟩ := h.open
  have w1 := (rise_in _ _ _ h1).1
  have w3 := (rise_in _ _ _ h3).1
  have w4 := (rise_in _ _ _ h4).1
  have hon : Lq [111, 110, 32] [wd [111, 110]] anyC := Lq.app (a := [111, 110]) (lb := []) (lq_word ⟨by decide, by decide, by decide⟩) (lq_blank 32 (by decide)) fun _ _ => nw_32
  have hcs : Lq (joinS [32, 38, 32] (r.when.map whenT ++ r.guard.map guardT)) (joinS [sn [38]] (r.when.map whenK ++ r.guard.map guardK)) nw := by
    refine lq_joinB _ _ (by simp) fun i hi hi' => ?_
    by_cases hw : i < r.when.length
    · rw [List.getElem_append_left (by simpa using hw), List.getElem_append_left (by simpa using hw), List.getElem_map, List.getElem_map]
      exact lq_when _ (w1 _ (List.getElem_mem hw)) (h.w _ (List.getElem_mem hw))
    · rw [List.getElem_append_right (by simpa using hw), List.getElem_append_right (by simpa using hw), List.getElem_map, List.getElem_map]
      simp only [List.length_map]
      have hg : i - r.when.length < r.guard.length := by simp at hi; omega
      have := w3 _ (List.getElem_mem hg)
      exact lq_guard _ (by omega) (h.g _ (List.getElem_mem hg))
  have hts : Lq (joinS [32, 38, 32] (r.thn.map thenT)) (joinS [sn [38]] (r.thn.map thenK)) nw := by
    refine lq_joinB _ _ (by simp) fun i hi hi' => ?_
    rw [List.getElem_map, List.getElem_map]
    have hg : i < r.thn.length := by simpa using hi
    have := w4 _ (List.getElem_mem hg)
    exact lq_then _ (by omega) (h.t _ (List.getElem_mem hg))
  exact hon.app (hcs.app (lq_to.app (hts.app lq_dot fun _ _ => nw_32) fun _ _ => rfl) fun _ _ => nw_32) fun _ _ => rfl
theorem lq_rules (parts : Int) (hp : parts ≤ 65535) : ∀ rs : List Rl, (∀ r ∈ rs, RlN parts r) → Lq (rs.flatMap fun r => ruleT r ++ [10]) (rs.flatMap toksR) anyC
  | [], _ => lq_nil _
  | r :: t, h => by
    have h1 := lq_rule parts hp r (h r (List.mem_cons_self ..))
    have h2 : Lq (ruleT r ++ [10]) (toksR r) anyC := by
      have := h1.app (lq_blank 10 (by decide)) fun _ _ => rfl
      rwa [List.append_nil] at this
    rw [List.flatMap_cons, List.flatMap_cons]
    exact h2.app (lq_rules parts hp t fun r' hr' => h r' (List.mem_cons_of_mem _ hr')) fun _ _ => rfl
theorem lq_nums : ∀ l : List Nat, (∀ n ∈ l, n ≤ 65535) → Lq (l.flatMap fun n => 32 :: decDigits n) (l.map nb) nw
  | [], _ => lq_nil _
  | n :: t, h => by
    have h1 : Lq (32 :: decDigits n) [nb n] nw := Lq.app (a := [32]) (la := []) (lq_blank 32 (by decide)) (lq_num n (h n (List.mem_cons_self ..))) fun _ _ => rfl
    have ih := lq_nums t fun m hm => h m (List.mem_cons_of_mem _ hm)
    rw [List.flatMap_cons, List.map_cons]
    refine h1.app ih fun C hC => ?_
    cases t with
    | nil => exact hC
    | cons m u => exact nw_32
theorem lex_pg {p : Pg} (h : PgN p) : Lq (textG p) (toksG p) anyC := by
  obtain ⟨-, hf, hr⟩ := chk_open h.chk
  have hl := h.len
  have h1 : Lq [105, 110, 105, 116] [wd [105, 110, 105, 116]] nw := lq_word ⟨by decide, by decide, by decide⟩
  have h2 := lq_nums p.init h.ni
  have h3 : Lq [112, 111, 108, 105, 99, 121, 32] [wd [112, 111, 108, 105, 99, 121]] anyC := Lq.app (a := [112, 111, 108, 105, 99, 121]) (lb := []) (lq_word ⟨by decide, by decide, by decide⟩) (lq_blank 32 (by decide)) fun _ _ => nw_32
  have h4 := lex_pl p.init.length (by omega) 300 p.pol hl.2.2.2.1 hf h.np
  have h5 := lq_rules p.init.length (by omega) p.rules fun r hr' => ⟨hr r hr', (h.nr r hr').1, (h.nr r hr').2.1, (h.nr r hr').2.2⟩
  exact h1.app (h2.app (lq_dotl.app (h3.app (h4.app (lq_dotl.app h5 fun _ _ => rfl) fun _ _ => nw_32) fun _ _ => rfl) fun _ _ => rfl) fun _ _ => nw_32) fun C _ => by
    cases hp : p.init with
    | nil => rw [hp] at hl; simp at hl
    | cons n t => exact nw_32
end Go.Proofs.YtebpapmnkbehnaaGreatDoor
/- What Parse answers of any text of up to 4000 bytes: an error, or the program of the reader's model; no conditions but that the variables stand. -/
set_option linter.unusedVariables false
set_option linter.unusedSimpArgs false
namespace Go.Proofs.YtebpapmnkbehnaaGreatDoor
open Go.RowKit Go.Joins Go.Lib

/-! ### How long its lists are -/
def LenR (r : Rl) (n : Nat) : Prop := r.when.length ≤ n ∧ r.guard.length ≤ n ∧ r.thn.length ≤ n
theorem with_len (l : List Pr) (c : Pr) (σ : St) : (withM l c σ).1.length ≤ l.length + 1 := by
  unfold withM
  split
  · simp
  · rw [ins_len]; exact Nat.le_refl _
theorem when_len {L : List Tk} {r : Rl} {σ : St} {n : Nat} (h : LenR r n) : LenR (whenM L r σ).1 (n + 1) := by
  obtain ⟨h1, h2, h3⟩ := h
  unfold whenM
  split
  · have := with_len r.guard (partM L [61] σ.next).1 (partM L [61] σ.next).2
    refine ⟨?_, ?_, ?_⟩
    · show r.when.length ≤ _; omega
    · show (withM _ _ _).1.length ≤ _; omega
    · show r.thn.length ≤ _; omega
  · have := with_len r.when ((fieldM L σ).1, (valueM L (needsM L [61] (fieldM L σ).2)).1) (valueM L (needsM L [61] (fieldM L σ).2)).2
    refine ⟨?_, ?_, ?_⟩
    · show (withM _ _ _).1.length ≤ _; omega
    · show r.guard.length ≤ _; omega
    · show r.thn.length ≤ _; omega
theorem then_len {L : List Tk} {r : Rl} {σ : St} {n : Nat} (h : LenR r n) : LenR (thenM L r σ).1 (n + 1) := by
  obtain ⟨h1, h2, h3⟩ := h
  unfold thenM
  have := with_len r.thn (partM L [58, 61] (needsM L [64] σ)).1 (partM L [58, 61] (needsM L [64] σ)).2
  refine ⟨?_, ?_, ?_⟩
  · show r.when.length ≤ _; omega
  · show r.guard.length ≤ _; omega
  · show (withM _ _ _).1.length ≤ _; omega
theorem amp_len {L : List Tk} {g : Rl → St → Rl × St} (hg : ∀ r σ n, LenR r n → LenR (g r σ).1 (n + 1)) : ∀ (k : Nat) (r : Rl) (σ : St) (n : Nat), LenR r n → LenR (ampM L g k r σ).1 (n + k)
  | 0, r, σ, n, h => h
  | k + 1, r, σ, n, h => by
    unfold ampM
    split
    · have := amp_len (L := L) hg k _ (g r σ.next).2 (n + 1) (hg r σ.next n h)
      rw [show n + 1 + k = n + (k + 1) by omega] at this
      exact this
    · obtain ⟨h1, h2, h3⟩ := h
      exact ⟨by show r.when.length ≤ _; omega, by show r.guard.length ≤ _; omega, by show r.thn.length ≤ _; omega⟩
theorem rule_len (L : List Tk) (σ : St) : LenR (ruleM L σ).1 (2 * L.length + 2) := by
  have h0 : LenR ⟨[], [], []⟩ 0 := ⟨Nat.le_refl _, Nat.le_refl _, Nat.le_refl _⟩
  have h1 := when_len (L := L) (σ := σ) h0
  have h2 := amp_len (L := L) (g := whenM L) (fun r σ n h => when_len h) L.length (whenM L ⟨[], [], []⟩ σ).1 (whenM L ⟨[], [], []⟩ σ).2 _ h1
  have h3 := then_len (L := L) (σ := needsM L [61, 62] (ampM L (whenM L) L.length (whenM L ⟨[], [], []⟩ σ).1 (whenM L ⟨[], [], []⟩ σ).2).2) h2
  have h4 := amp_len (L := L) (g := thenM L) (fun r σ n h => then_len h) L.length _ (thenM L (ampM L (whenM L) L.length (whenM L ⟨[], [], []⟩ σ).1 (whenM L ⟨[], [], []⟩ σ).2).1 (needsM L [61, 62] (ampM L (whenM L) L.length (whenM L ⟨[], [], []⟩ σ).1 (whenM L ⟨[], [], []⟩ σ).2).2)).2 _ h3
  have e : 0 + 1 + L.length + 1 + L.length = 2 * L.length + 2 := by omega
  rw [e] at h4
  exact h4
theorem rules_len (L : List Tk) (n : Nat) (hn : 2 * L.length + 2 ≤ n) : ∀ (k : Nat) (l : List Rl) (σ : St), (∀ r ∈ l, LenR r n) → (rulesM L k l σ).1.length ≤ l.length + k ∧ ∀ r ∈ (rulesM L k l σ).1, LenR r n
  | 0, l, σ, h => ⟨Nat.le_refl _, h⟩
  | k + 1, l, σ, h => by
    rw [rulesM_succ]
    split
    · have h1 : ∀ r ∈ l ++ [(ruleM L σ.next).1], LenR r n := by
        intro r hr
        rcases List.mem_append.1 hr with hr | hr
        · exact h r hr
        · rw [List.mem_singleton] at hr
          subst hr
          obtain ⟨a, b, c⟩ := rule_len L σ.next
          exact ⟨by omega, by omega, by omega⟩
      have := rules_len L n hn k (l ++ [(ruleM L σ.next).1]) (needsM L [46] (ruleM L σ.next).2) h1
      refine ⟨?_, this.2⟩
      have h2 := this.1
      rw [List.length_append, List.length_singleton] at h2
      omega
    · exact ⟨by show l.length ≤ _; omega, h⟩
theorem numsM_len (L : List Tk) : ∀ (k : Nat) (l : List Nat) (σ : St), (numsM L k l σ).1.length ≤ l.length + k
  | 0, l, σ => Nat.le_refl _
  | k + 1, l, σ => by
    rw [numsM_succ]
    split
    · have := numsM_len L k (l ++ [(tokAt L σ).n]) σ.next
      rw [List.length_append, List.length_singleton] at this
      omega
    · show l.length ≤ _; omega
theorem prog_short {L : List Tk} (hL : EndL L) {σ : St} (h : Ok L σ) : PgShort (programM L σ).1 := by
  have hf := hL.few
  have h1 := up_start hL h
  have h2 := h1.trans (up_lets hL L.length _ h1.2)
  have h3 := h2.trans (up_needs hL (s := [112, 111, 108, 105, 99, 121]) (by decide) h2.2)
  have h4 := sum_sz hL (L.length + 1) _ h3.2
  have h5 : (sumM L (L.length + 1) (needsM L [112, 111, 108, 105, 99, 121] (letsM L L.length (startM L σ).2))).2.pos < L.length := h4.1.2
  have h6 := rules_len L (2 * L.length + 2) (Nat.le_refl _) L.length [] (needsM L [46] (sumM L (L.length + 1) (needsM L [112, 111, 108, 105, 99, 121] (letsM L L.length (startM L σ).2))).2) (fun r hr => by cases hr)
  have h7 := numsM_len L L.length [(numberM L (needsM L [105, 110, 105, 116] σ)).1] (numberM L (needsM L [105, 110, 105, 116] σ)).2
  refine ⟨?_, ?_, ?_, ?_⟩
  · show (numsM L L.length [_] _).1.length ≤ _
    simp only [List.length_singleton] at h7
    omega
  · show sizeP (sumM L (L.length + 1) _).1 ≤ _
    have := h4.2
    omega
  · show (rulesM L L.length [] _).1.length ≤ _
    have := h6.1
    simp only [List.length_nil] at this
    omega
  · intro r hr
    obtain ⟨a, b, c⟩ := h6.2 r hr
    exact ⟨by omega, by omega, by omega⟩
/-! ### Any text -/
/-- A text's tokens. -/
def lexT (s : List UInt8) (r : Except Nat (List Tk)) : Prop := (validD s = false ∧ r = .error 10) ∨ ∃ cs, Good cs ∧ s = fl cs ∧ lexS 0 cs = r
theorem lexT_all (s : List UInt8) : ∃ r, lexT s r := by
  cases h : validD s with
  | false => exact ⟨_, .inl ⟨h, rfl⟩⟩
  | true =>
    obtain ⟨cs, hg, e⟩ := valid_split s.length s (Nat.le_refl _) h
    exact ⟨_, .inr ⟨cs, hg, e, rfl⟩⟩
theorem lexS_err : ∀ (cs : List R) (k e : Nat), lexS k cs = .error e → e ≠ 0 ∧ e < 1000
  | [], k, e, h => by rw [lexS_nil] at h; cases h
  | x :: t, k + 1, e, h => by rw [lexS_skip] at h; exact lexS_err t k e h
  | x :: t, 0, e, h => by
    rw [lexS_zero] at h
    split at h
    · exact lexS_err t 0 e h
    · split at h
      · exact lexS_err t _ e h
      · cases hf : fst1 x t with
        | error e' =>
          rw [hf] at h
          simp only [Except.error.injEq] at h
          subst h
          exact fst1_err hf
        | ok y =>
          obtain ⟨tk, n⟩ := y
          rw [hf] at h
          dsimp only at h
          cases hl : lexS n t with
          | error e' =>
            rw [hl] at h
            simp only [Except.error.injEq] at h
            subst h
            exact lexS_err t n _ hl
          | ok m => rw [hl] at h; cases h
theorem prog_keeps (l : List Tk) : (progOf l).2.mid = false := program_keeps _ _
set_option maxRecDepth 100000 in
set_option maxHeartbeats 8000000 in
/-- Tokens fail: so does Parse. -/
theorem parse_err (s : List UInt8) (er : Nat) (her : er ≠ 0) (hb : er < 1000) (w : World)
    (cT : Calls Tryz.prog 23 #[str s] (w.alloc gz) fun e w' => e = .returned (.tuple #[.slice none 0 0, .int .i64 (er : Int)]) ∧ Below (w.alloc gz).heap.size (w.alloc gz) w') :
    Calls Tryz.prog 10 #[str s] w fun e w' => e = .returned (.tuple #[pgv (.slice none 0 0) nd0 (.slice none 0 0), .int .i64 (er : Int)]) ∧ Below w.heap.size w w' := by
  have hb0 := (Below.refl _ w).alloc (Nat.le_refl _) gz
  have hrow0 := heap_alloc_new w gz
  have dne := par_ne her hb
  have HB0 : Hid (Below w.heap.size w (w.alloc gz)) := hb0
  clear hb0
  go_enter Tryz.func10, Tryz.ntmps10
  go_wp2_with fail
  refine cT.mono ?_
  rintro e w1 ⟨rfl, hb1⟩
  have HB1 : Hid (Below w.heap.size w w1) := HB0.out.trans (hb1.mono HB0.out.size)
  have HR1 : Hid (w1.heap[w.heap.size]? = some gz) := (hb1.block _ (heap_lt hrow0)).trans hrow0
  clear hb1 hrow0 cT
  obtain ⟨t0, t1, t2, t3, t4, t5⟩ := row6 HR1.out
  have f0 := frz6 HR1.out 0
  have f1 := frz6 HR1.out 1
  have f2 := frz6 HR1.out 2
  have f3 := frz6 HR1.out 3
  have f4 := frz6 HR1.out 4
  have f5 := frz6 HR1.out 5
  have hgq := heap_lt HR1.out
  go_wp2
  refine bodyPost_ret (v := .tuple #[pgv (.slice none 0 0) nd0 (.slice none 0 0), .int .i64 (er : Int)]) ?_ rfl ⟨rfl, ?_⟩
  · obtain ⟨g0, g1, g2, g3, g4, g5⟩ := row6 (row_set6 (.slice none 0 0) nd0 (.slice none 0 0) HR1.out)
    simp [results, Tryz.results10, go_sem, g0, g1, g2, g3, g4, g5]
  · exact below_set6 HB1.out (.slice none 0 0) nd0 (.slice none 0 0)
/-- Any text: an error, or the program. -/
theorem parse_text (s : List UInt8) (hl : s.length ≤ 4000) (r : Except Nat (List Tk)) (hr : lexT s r) (w : World) (h : Env w) :
    Calls Tryz.prog 10 #[str s] w fun e w' => (∃ iv x rv, e = .returned (.tuple #[pgv iv x rv, .int .i64 (parseE r : Int)]) ∧ PgShape iv x rv ∧ ∀ l, r = .ok l → parseE (.ok l) = 0 → PgAt (fun b => w.heap.size < b) w' iv x rv (progOf l).1 ∧ w'.ownsRow (w.heap.size + 1) 26 1 iv (progOf l).1.init.length (nums (progOf l).1.init)) ∧ Below w.heap.size w w' := by
  have hE := h.below ((Below.refl _ w).alloc (Nat.le_refl _) gz)
  have key : ∀ er, er ≠ 0 → er < 1000 → r = .error er → (Calls Tryz.prog 23 #[str s] (w.alloc gz) fun e w' => e = .returned (.tuple #[.slice none 0 0, .int .i64 (er : Int)]) ∧ Below (w.alloc gz).heap.size (w.alloc gz) w') →
      Calls Tryz.prog 10 #[str s] w fun e w' => (∃ iv x rv, e = .returned (.tuple #[pgv iv x rv, .int .i64 (parseE r : Int)]) ∧ PgShape iv x rv ∧ ∀ l, r = .ok l → parseE (.ok l) = 0 → PgAt (fun b => w.heap.size < b) w' iv x rv (progOf l).1 ∧ w'.ownsRow (w.heap.size + 1) 26 1 iv (progOf l).1.init.length (nums (progOf l).1.init)) ∧ Below w.heap.size w w' := by
    intro er h1 h2 h3 hc
    subst h3
    refine (parse_err s er h1 h2 w hc).mono ?_
    rintro e w' ⟨rfl, hb⟩
    exact ⟨⟨_, _, _, rfl, ⟨⟨_, _, _, rfl⟩, ⟨_, _, _, rfl⟩, ⟨_, _, _, rfl⟩⟩, fun l e => by cases e⟩, hb⟩
  rcases hr with ⟨hv, rfl⟩ | ⟨cs, hg, rfl, hlex⟩
  · exact key 10 (by decide) (by decide) rfl (tokens_bad s hl hv _ hE)
  · cases r with
    | error er =>
      obtain ⟨h1, h2⟩ := lexS_err _ _ _ hlex
      refine key er h1 h2 rfl ?_
      have := tokens_good cs hg hl _ hE
      rw [hlex] at this
      exact this
    | ok l =>
      obtain ⟨hEn, -⟩ := lex_end hg hl hlex
      refine (parse_full cs hg hl l hlex (prog_keeps l) (prog_short hEn (by show 0 < _; simp)) w h).mono ?_
      rintro e w' ⟨⟨iv, x, rv, h1, h2, h3⟩, hb⟩
      exact ⟨⟨iv, x, rv, h1, h2, fun l' e hz => by cases e; exact h3 hz⟩, hb⟩
end Go.Proofs.YtebpapmnkbehnaaGreatDoor
