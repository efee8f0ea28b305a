/- What the law's Few answers of rules that lie somewhere; no conditions but a slice's length. -/
import Derived.Test.YtebpapmnkbehnaaGreatDoorK11
import Derived.Test.YtebpapmnkbehnaaGreatDoorS1
import Derived.KernelRfl
set_option linter.unusedVariables false
set_option linter.unusedSimpArgs false
namespace Go.Proofs.YtebpapmnkbehnaaGreatDoor
open Go.RowKit Go.Joins

def rfew (r : Rl) : Bool := !(decide (10 < r.when.length) || decide (10 < r.guard.length) || decide (10 < r.thn.length))
def fewB (rs : List Rl) : Bool := !decide (30 < rs.length) && rs.all rfew
theorem few_len {rs : List Rl} (h : fewB rs = true) : rs.length ≤ 30 ∧ ∀ r ∈ rs, r.when.length ≤ 10 ∧ r.guard.length ≤ 10 ∧ r.thn.length ≤ 10 := by
  unfold fewB at h
  rw [Bool.and_eq_true, List.all_eq_true] at h
  refine ⟨by have := h.1; simp at this; omega, fun r hr => ?_⟩
  have := h.2 r hr
  unfold rfew at this
  simp at this
  omega
set_option maxRecDepth 100000 in
set_option maxHeartbeats 4000000 in
theorem few_any {P : Nat → Prop} (rs : List Rl) (v : Value) (w : World) (h : RulesAt P w v rs) (hmax : rs.length ≤ 9223372036854775807) (hm : ∀ r ∈ rs, r.when.length ≤ 9223372036854775807 ∧ r.guard.length ≤ 9223372036854775807 ∧ r.thn.length ≤ 9223372036854775807) :
    Calls Tryz.prog 7 #[v] w fun e w' => e = .returned (.bool (fewB rs)) ∧ Below w.heap.size w w' := by
  obtain ⟨sr, sc, rfl, hc⟩ := h
  have HC : Hid _ := hc
  have HM : Hid _ := hm
  clear hc hm
  by_cases hl : 30 < rs.length
  · have d : decide (30 < (rs.length : Int)) = true := by simp; omega
    have hf : fewB rs = false := by unfold fewB; simp [hl]
    rw [hf]
    clear hf HC HM
    generalize rs.length = R at *
    go_enter Tryz.func7, Tryz.ntmps7
    go_wp2
    go_ret
    exact ⟨rfl, Below.refl _ w⟩
  · have d : decide (30 < (rs.length : Int)) = false := by simp; omega
    have hf : fewB rs = rs.all rfew := by unfold fewB; simp [hl]
    rw [hf]
    obtain ⟨R, eR⟩ : ∃ R, rs.length = R := ⟨_, rfl⟩
    have HER : Hid (rs.length = R) := eR
    rw [eR] at hl d hmax ⊢
    have HH : Hid (∀ k (hk : k < rs.length), rfew rs[k] = false → rs.all rfew = false) := fun k hk h => all_false _ _ k hk h
    obtain ⟨af, eaf⟩ : ∃ af, rs.all rfew = af := ⟨_, rfl⟩
    have HAF : Hid (rs.all rfew = af) := eaf
    rw [eaf]
    clear eR hf eaf
    go_enter Tryz.func7, Tryz.ntmps7
    go_wp2_with fail
    go_loopw [10] (fun i wr => ∃ k : Nat, k ≤ R ∧ i = .int .i64 (k : Int) ∧ Hid ((rs.take k).all rfew = true) ∧ Hid (Below w.heap.size w wr)) (fun i _ => R - (intOf i).toNat)
    case atStart => exact ⟨0, Nat.zero_le _, rfl, by show _ = _; simp, Below.refl _ w⟩
    case round =>
      obtain ⟨k, hkl, rfl, HT, HB⟩ := hrel
      by_cases hlt : k < R
      · have hlt' : k < rs.length := by rw [HER.out]; exact hlt
        obtain ⟨b, off, v1, v2, v3, rfl, -, hb, ⟨a0, a1, a2⟩, hru'⟩ := HC.out k hlt'
        have hru := hru'.at
        clear hru'
        have q : ∀ o, wr.cell? ⟨b, o, none⟩ = w.cell? ⟨b, o, none⟩ := fun o => HB.out.cell (p := ⟨b, o, none⟩) hb
        rw [← q] at a0 a1 a2
        have hwr := HB.out.size
        obtain ⟨sa1, sc1, rfl⟩ := hru.p1.shape
        obtain ⟨sa2, sc2, rfl⟩ := hru.p2.shape
        obtain ⟨sa3, sc3, rfl⟩ := hru.p3.shape
        have htk := all_take rfew rs k hlt'
        rw [HT.out, Bool.true_and] at htk
        have hno := HH.out k hlt'
        have hmm := HM.out _ (List.getElem_mem hlt')
        rw [HAF.out] at hno
        have hdef : rfew rs[k] = !(decide (10 < rs[k].when.length) || decide (10 < rs[k].guard.length) || decide (10 < rs[k].thn.length)) := rfl
        rw [hdef] at htk hno
        clear hru q hdef
        generalize rs[k].when.length = n1 at *
        generalize rs[k].guard.length = n2 at *
        generalize rs[k].thn.length = n3 at *
        clear hlt'
        obtain ⟨m1, m2, m3⟩ := hmm
        by_cases h1 : 10 < n1
        · have d1 : decide (10 < (n1 : Int)) = true := by simp; omega
          have HN : Hid (af = false) := hno (by simp [h1])
          clear hno htk
          go_wp2
          go_ret
          exact ⟨by rw [HN.out]; rfl, HB.out.alloc hwr _⟩
        · have d1 : decide (10 < (n1 : Int)) = false := by simp; omega
          by_cases h2 : 10 < n2
          · have d2 : decide (10 < (n2 : Int)) = true := by simp; omega
            have HN : Hid (af = false) := hno (by simp [h2])
            clear hno htk
            go_wp2
            go_ret
            exact ⟨by rw [HN.out]; rfl, HB.out.alloc hwr _⟩
          · have d2 : decide (10 < (n2 : Int)) = false := by simp; omega
            by_cases h3 : 10 < n3
            · have d3 : decide (10 < (n3 : Int)) = true := by simp; omega
              have HN : Hid (af = false) := hno (by simp [h3])
              clear hno htk
              go_wp2
              go_ret
              exact ⟨by rw [HN.out]; rfl, HB.out.alloc hwr _⟩
            · have d3 : decide (10 < (n3 : Int)) = false := by simp; omega
              have HT2 : Hid ((rs.take (k + 1)).all rfew = true) := by show _ = _; rw [htk]; simp [h1, h2, h3]
              clear hno htk
              go_wp2
              go_roundw
              case rel => exact ⟨k + 1, by omega, by go_num, HT2, HB.out.alloc hwr _⟩
              case measure => simp [intOf]; omega
      · obtain rfl : k = R := by omega
        have HN : Hid (af = true) := by
          have ht := HT.out
          rw [← HER.out, List.take_length, HAF.out] at ht
          exact ht
        go_wp2
        go_ret
        exact ⟨by rw [HN.out]; rfl, HB.out⟩
end Go.Proofs.YtebpapmnkbehnaaGreatDoor
/- The three texts that SyntaxNames asks about, as tokens, and what the reader's model answers of them: for every word of up to 20 small letters and every digit. -/
set_option linter.unusedVariables false
set_option linter.unusedSimpArgs false
namespace Go.Proofs.YtebpapmnkbehnaaGreatDoor
open Go.RowKit Go.Joins Go.Lib

/-- A blank cuts a row of code points in two, where no remark stands. -/
theorem lex_cut (C : List R) : ∀ (A : List R) (k : Nat), (∀ x ∈ A, x.1 ≠ 35) → k ≤ A.length → lexS k (A ++ (32, [32]) :: C) = cat (lexS k A) (lexS 0 C)
  | [], k, _, hk => by
    obtain rfl : k = 0 := by simpa using hk
    rw [List.nil_append, lexS_zero, if_pos (by decide), lexS_nil]
    unfold cat
    cases lexS 0 C <;> rfl
  | x :: t, k + 1, hA, hk => by
    rw [List.cons_append, lexS_skip, lexS_skip]
    exact lex_cut C t k (fun y hy => hA y (List.mem_cons_of_mem _ hy)) (by simpa using hk)
  | x :: t, 0, hA, _ => by
    have hA' : ∀ y ∈ t, y.1 ≠ 35 := fun y hy => hA y (List.mem_cons_of_mem _ hy)
    rw [List.cons_append, lexS_zero, lexS_zero]
    by_cases hb : bl x.1 = true
    · rw [if_pos hb, if_pos hb]; exact lex_cut C t 0 hA' (Nat.zero_le _)
    · rw [if_neg hb, if_neg hb]
      have hr : ¬ x.1 = 35 := hA x (List.mem_cons_self ..)
      rw [if_neg hr, if_neg hr, fst1_app x t _ C iw32 (by decide) (by decide) (by decide)]
      cases hf : fst1 x t with
      | error e => rfl
      | ok y =>
        obtain ⟨tk, n⟩ := y
        have hn := fst1_le x t tk n hf
        dsimp only
        rw [lex_cut C t n hA' hn]
        cases lexS n t with
        | error e => rfl
        | ok l =>
          unfold cat
          cases lexS 0 C with
          | error e => rfl
          | ok m => rfl
theorem cat_ok (a b : List Tk) : cat (.ok a) (.ok b) = .ok (a ++ b) := rfl
theorem asc_app (a b : List UInt8) : asc (a ++ b) = asc a ++ asc b := by simp [asc]
theorem asc_len (a : List UInt8) : (asc a).length = a.length := by simp [asc]
theorem asc_no (a : List UInt8) (h : ∀ b ∈ a, b.toNat ≠ 35) : ∀ x ∈ asc a, x.1 ≠ 35 := by
  intro x hx
  obtain ⟨b, hb, rfl⟩ := List.mem_map.1 hx
  exact h b hb
/-- Two rows of bytes with a blank between. -/
theorem lex_two (a b : List UInt8) (la lb : List Tk) (ha : lexS 0 (asc a) = .ok la) (hb : lexS 0 (asc b) = .ok lb) (h : ∀ x ∈ a, x.toNat ≠ 35) : lexS 0 (asc (a ++ 32 :: b)) = .ok (la ++ lb) := by
  have e : asc (a ++ 32 :: b) = asc a ++ (32, [32]) :: asc b := by simp [asc]
  rw [e, lex_cut _ _ 0 (asc_no a h) (Nat.zero_le _), ha, hb]; rfl

/-- A word of small letters. -/
def Small (s : List UInt8) : Prop := s ≠ [] ∧ s.length ≤ 20 ∧ ∀ b ∈ s, 97 ≤ b.toNat ∧ b.toNat ≤ 122
theorem small_lt {b : UInt8} (h : 97 ≤ b.toNat ∧ b.toNat ≤ 122) : lt b.toNat = true := by
  rw [lt_ascii _ (by omega)]; simp; omega
theorem Small.no {s : List UInt8} (h : Small s) : ∀ x ∈ s, x.toNat ≠ 35 := fun x hx => by have := h.2.2 x hx; omega
theorem small_span {s : List UInt8} (h : ∀ b ∈ s, 97 ≤ b.toNat ∧ b.toNat ≤ 122) : span iw (asc s) = asc s := by
  refine span_all _ _ fun x hx => ?_
  obtain ⟨b, hb, rfl⟩ := List.mem_map.1 hx
  unfold iw
  rw [small_lt (h b hb)]; rfl
theorem lex_word {s : List UInt8} (h : Small s) : lexS 0 (asc s) = .ok [⟨1, s, 0⟩] := by
  obtain ⟨hne, hl, hs⟩ := h
  cases s with
  | nil => exact absurd rfl hne
  | cons c r =>
    have hc := hs c (List.mem_cons_self ..)
    have e : asc (c :: r) = (c.toNat, [c]) :: asc r := rfl
    have hb : bl c.toNat = false := (lt_bl (small_lt hc)).1
    have h35 := (lt_bl (small_lt hc)).2
    have hsp := small_span fun b hb => hs b (List.mem_cons_of_mem _ hb)
    have hf : fst1 (c.toNat, [c]) (asc r) = .ok (⟨1, c :: r, 0⟩, r.length) := by
      unfold fst1 wordOf
      rw [if_pos (small_lt hc), hsp, if_neg (by rw [asc_len]; simp at hl; omega), fl_cons, fl_asc, asc_len]; rfl
    rw [e, lexS_zero, if_neg (by rw [hb]; decide), if_neg h35, hf]
    dsimp only
    rw [lexS_drop, List.drop_of_length_le (by rw [asc_len]; exact Nat.le_refl _), lexS_nil]
theorem iw61 : iw 61 = false := by decide +kernel
theorem lex_dst {s : List UInt8} (h : Small s) : lexS 0 (asc ([100, 115, 116, 61] ++ s)) = .ok [⟨1, [100, 115, 116], 0⟩, ⟨3, [61], 0⟩, ⟨1, s, 0⟩] := by
  have e : asc ([100, 115, 116, 61] ++ s) = (100, [100]) :: (asc [115, 116] ++ (61, [61]) :: asc s) := by simp [asc]
  have hf : fst1 (100, [100]) (asc [115, 116] ++ (61, [61]) :: asc s) = .ok (⟨1, [100, 115, 116], 0⟩, 2) := by
    unfold fst1 wordOf
    rw [if_pos (show lt 100 = true by decide +kernel), span_app iw _ _ iw61]; kernel_rfl
  have hw := lex_word h
  have hd62 : hd (asc s) ≠ 62 ∧ hd (asc s) ≠ 61 := by
    obtain ⟨hne, -, hs⟩ := h
    cases s with
    | nil => exact absurd rfl hne
    | cons c r =>
      have := hs c (List.mem_cons_self ..)
      show c.toNat ≠ 62 ∧ c.toNat ≠ 61
      omega
  have hg : fst1 (61, [61]) (asc s) = .ok (⟨3, [61], 0⟩, 0) := by
    unfold fst1 signOf
    rw [if_neg (show ¬ lt 61 = true by decide +kernel), if_neg (by decide), if_neg (by rintro ⟨h, -⟩; exact absurd h (by decide)), if_neg (fun h => hd62.1 h.2), if_pos (by decide +kernel)]
  rw [e, lexS_zero, if_neg (by decide), if_neg (by decide), hf]
  dsimp only
  have e2 : lexS 2 (asc [115, 116] ++ (61, [61]) :: asc s) = lexS 0 ((61, [61]) :: asc s) := rfl
  rw [e2, lexS_zero, if_neg (by decide), if_neg (by decide), hg]
  dsimp only
  rw [hw]

def wd (l : List UInt8) : Tk := ⟨1, l, 0⟩
def sn (l : List UInt8) : Tk := ⟨3, l, 0⟩
def nb (n : Nat) : Tk := ⟨2, [], n⟩
/-- The digit as bytes. -/
def dgt (n : Nat) : UInt8 := UInt8.ofNat (48 + n)
theorem lex_digit : ∀ n : Fin 10, lexS 0 (asc [dgt n.val]) = .ok [nb n.val]
  | ⟨0, _⟩ => by kernel_rfl
  | ⟨1, _⟩ => by kernel_rfl
  | ⟨2, _⟩ => by kernel_rfl
  | ⟨3, _⟩ => by kernel_rfl
  | ⟨4, _⟩ => by kernel_rfl
  | ⟨5, _⟩ => by kernel_rfl
  | ⟨6, _⟩ => by kernel_rfl
  | ⟨7, _⟩ => by kernel_rfl
  | ⟨8, _⟩ => by kernel_rfl
  | ⟨9, _⟩ => by kernel_rfl
theorem dgt_no : ∀ n : Fin 10, (dgt n.val).toNat ≠ 35 ∧ (dgt n.val).toNat < 128 := by decide +kernel

/-- init 0 . -/
def bInit : List UInt8 := [105, 110, 105, 116, 32, 48, 32, 46]
def tInit : List Tk := [wd [105, 110, 105, 116], nb 0, sn [46]]
theorem lex_init : lexS 0 (asc bInit) = .ok tInit := by kernel_rfl
/-- let s = d . -/
def bLet (s : List UInt8) (n : Nat) : List UInt8 := [108, 101, 116] ++ 32 :: (s ++ 32 :: ([61] ++ 32 :: ([dgt n] ++ 32 :: [46])))
def tLet (s : List UInt8) (n : Nat) : List Tk := [wd [108, 101, 116], wd s, sn [61], nb n, sn [46]]
theorem lex_let {s : List UInt8} (h : Small s) (n : Nat) (hn : n < 10) : lexS 0 (asc (bLet s n)) = .ok (tLet s n) := by
  have h1 := lex_two [dgt n] [46] _ [sn [46]] (lex_digit ⟨n, hn⟩) (by kernel_rfl) (by simp; exact (dgt_no ⟨n, hn⟩).1)
  have h2 := lex_two [61] _ [sn [61]] _ (by kernel_rfl) h1 (by decide)
  have h3 := lex_two s _ _ _ (lex_word h) h2 h.no
  exact lex_two [108, 101, 116] _ [wd [108, 101, 116]] _ (by kernel_rfl) h3 (by decide)
theorem no_let {s : List UInt8} (h : Small s) (n : Nat) (hn : n < 10) : ∀ x ∈ bLet s n, x.toNat ≠ 35 := by
  intro x hx
  simp only [bLet, List.mem_append, List.mem_cons, List.mem_nil_iff, or_false] at hx
  have hd := (dgt_no ⟨n, hn⟩).1
  rcases hx with (rfl | rfl | rfl) | rfl | hx | rfl | rfl | rfl | rfl | rfl | rfl
  all_goals first | decide | exact h.no _ hx | exact hd
/-- policy dst=s . -/
def bPol (s : List UInt8) : List UInt8 := [112, 111, 108, 105, 99, 121] ++ 32 :: ([100, 115, 116, 61] ++ s ++ 32 :: [46])
def tPol (s : List UInt8) : List Tk := [wd [112, 111, 108, 105, 99, 121], wd [100, 115, 116], sn [61], wd s, sn [46]]
theorem lex_pol {s : List UInt8} (h : Small s) : lexS 0 (asc (bPol s)) = .ok (tPol s) := by
  have h1 := lex_two _ [46] _ [sn [46]] (lex_dst h) (by kernel_rfl) (by
    intro x hx
    rcases List.mem_append.1 hx with hx | hx
    · exact (show ∀ x ∈ ([100, 115, 116, 61] : List UInt8), x.toNat ≠ 35 by decide) x hx
    · exact h.no x hx)
  exact lex_two [112, 111, 108, 105, 99, 121] _ [wd [112, 111, 108, 105, 99, 121]] _ (by kernel_rfl) h1 (by decide)
/-- policy id . -/
def bId : List UInt8 := [112, 111, 108, 105, 99, 121, 32, 105, 100, 32, 46]
def tId : List Tk := [wd [112, 111, 108, 105, 99, 121], wd [105, 100], sn [46]]
theorem lex_id : lexS 0 (asc bId) = .ok tId := by kernel_rfl
theorem no_init : ∀ x ∈ bInit, x.toNat ≠ 35 := by decide

def b1 (s : List UInt8) (n : Nat) : List UInt8 := bInit ++ 32 :: (bLet s n ++ 32 :: bPol s)
def b2 (s : List UInt8) (n : Nat) : List UInt8 := bInit ++ 32 :: (bLet s n ++ 32 :: (bLet s n ++ 32 :: bId))
def b3 (s : List UInt8) : List UInt8 := bInit ++ 32 :: bPol s
def t1 (s : List UInt8) (n : Nat) : List Tk := tInit ++ (tLet s n ++ tPol s)
def t2 (s : List UInt8) (n : Nat) : List Tk := tInit ++ (tLet s n ++ (tLet s n ++ tId))
def t3 (s : List UInt8) : List Tk := tInit ++ tPol s
theorem lex_1 {s : List UInt8} (h : Small s) (n : Nat) (hn : n < 10) : lexS 0 (asc (b1 s n)) = .ok (t1 s n) :=
  lex_two _ _ _ _ lex_init (lex_two _ _ _ _ (lex_let h n hn) (lex_pol h) (no_let h n hn)) no_init
theorem lex_2 {s : List UInt8} (h : Small s) (n : Nat) (hn : n < 10) : lexS 0 (asc (b2 s n)) = .ok (t2 s n) :=
  lex_two _ _ _ _ lex_init (lex_two _ _ _ _ (lex_let h n hn) (lex_two _ _ _ _ (lex_let h n hn) lex_id (no_let h n hn)) (no_let h n hn)) no_init
theorem lex_3 {s : List UInt8} (h : Small s) : lexS 0 (asc (b3 s)) = .ok (t3 s) := lex_two _ _ _ _ lex_init (lex_pol h) no_init
end Go.Proofs.YtebpapmnkbehnaaGreatDoor
