/- The texts of policies, as the document says them, and their tokens; no conditions. -/
import Derived.Test.YtebpapmnkbehnaaGreatDoorR6
import Derived.Test.YtebpapmnkbehnaaGreatDoorK1
import Derived.Test.YtebpapmnkbehnaaGreatDoorT0
import Derived.Test.YtebpapmnkbehnaaGreatDoorK0
import Derived.Test.YtebpapmnkbehnaaGreatDoorP13
import Derived.Test.YtebpapmnkbehnaaGreatDoorK7
set_option linter.unusedVariables false
set_option linter.unusedSimpArgs false
namespace Go.Proofs.YtebpapmnkbehnaaGreatDoor
open Go.Lib

/-! ### Bytes that have these tokens, whatever follows -/
/-- What follows begins with a code point of q. -/
def Lq (a : List UInt8) (l : List Tk) (q : Nat → Bool) : Prop := ∀ C, q (hd C) = true → lexS 0 (asc a ++ C) = cat (.ok l) (lexS 0 C)
def anyC (_ : Nat) : Bool := true
/-- Nothing of a word. -/
def nw (c : Nat) : Bool := !iw c
/-- No > (behind an =). -/
def n62 (c : Nat) : Bool := decide (c ≠ 62)
theorem cat_cat (a b : List Tk) (r : Except Nat (List Tk)) : cat (.ok a) (cat (.ok b) r) = cat (.ok (a ++ b)) r := by
  cases r with
  | error e => rfl
  | ok m => simp [cat]
theorem cat_nil (r : Except Nat (List Tk)) : cat (.ok []) r = r := by cases r <;> rfl
theorem hd_asc (b : UInt8) (r : List UInt8) (C : List R) : hd (asc (b :: r) ++ C) = b.toNat := rfl
theorem Lq.app {a b : List UInt8} {la lb : List Tk} {q q' : Nat → Bool} (ha : Lq a la q) (hb : Lq b lb q') (h : ∀ C, q' (hd C) = true → q (hd (asc b ++ C)) = true) : Lq (a ++ b) (la ++ lb) q' := by
  intro C hC
  rw [asc_app, List.append_assoc, ha _ (h C hC), hb C hC, cat_cat]
theorem Lq.cons {a : List UInt8} {b : UInt8} {r : List UInt8} {la lb : List Tk} {q q' : Nat → Bool} (ha : Lq a la q) (hb : Lq (b :: r) lb q') (h : q b.toNat = true) : Lq (a ++ b :: r) (la ++ lb) q' :=
  ha.app hb fun C _ => by rw [hd_asc]; exact h
theorem Lq.anyof {a : List UInt8} {la : List Tk} {q : Nat → Bool} (h : Lq a la anyC) : Lq a la q := fun C _ => h C rfl
theorem lq_nil (q : Nat → Bool) : Lq [] [] q := fun C _ => by rw [cat_nil]; rfl
theorem lq_blank (b : UInt8) (hb : bl b.toNat = true) : Lq [b] [] anyC := fun C _ => by
  show lexS 0 ((b.toNat, [b]) :: C) = _
  rw [lexS_zero, if_pos hb, cat_nil]
theorem span_stop (p : Nat → Bool) (C : List R) (h : p (hd C) = false) : span p C = [] := by
  cases C with
  | nil => rfl
  | cons y t =>
    have : p y.1 = false := h
    simp [span, List.takeWhile_cons, this]
theorem span_behind (p : Nat → Bool) (A C : List R) (hA : ∀ x ∈ A, p x.1 = true) (hC : p (hd C) = false) : span p (A ++ C) = A := by
  induction A with
  | nil => exact span_stop p C hC
  | cons x t ih =>
    have h1 := hA x (List.mem_cons_self ..)
    have h2 := ih (fun y hy => hA y (List.mem_cons_of_mem _ hy))
    simp only [span] at h2 ⊢
    rw [List.cons_append, List.takeWhile_cons, if_pos h1, h2]
theorem lex_one {x : R} {t : List R} {tk : Tk} {n : Nat} (hb : bl x.1 = false) (h35 : x.1 ≠ 35) (hf : fst1 x t = .ok (tk, n)) : lexS 0 (x :: t) = cat (.ok [tk]) (lexS 0 (t.drop n)) := by
  rw [lexS_zero, if_neg (by rw [hb]; decide), if_neg h35, hf]
  dsimp only
  rw [lexS_drop]
  cases lexS 0 (t.drop n) <;> rfl
theorem lq_word {s : List UInt8} (h : Small s) : Lq s [wd s] nw := by
  intro C hC
  obtain ⟨hne, hl, hs⟩ := h
  cases s with
  | nil => exact absurd rfl hne
  | cons c r =>
    have hc := hs c (List.mem_cons_self ..)
    have hiw : iw (hd C) = false := by unfold nw at hC; simpa using hC
    have hsp : span iw (asc r ++ C) = asc r := span_behind iw _ _ (fun x hx => by
      obtain ⟨b, hb, rfl⟩ := List.mem_map.1 hx
      unfold iw
      rw [small_lt (hs b (List.mem_cons_of_mem _ hb))]; rfl) hiw
    have hf : fst1 (c.toNat, [c]) (asc r ++ C) = .ok (wd (c :: r), (asc r).length) := by
      unfold fst1 wordOf
      rw [if_pos (small_lt hc), hsp, if_neg (by rw [asc_len]; simp at hl; omega), fl_cons, fl_asc]; rfl
    have := lex_one (lt_bl (small_lt hc)).1 (lt_bl (small_lt hc)).2 hf
    rw [List.drop_left] at this
    exact this
theorem iw_dg {r : Nat} (h : dg r = true) : iw r = true := by unfold iw; rw [h]; simp
theorem lq_num (n : Nat) (hn : n ≤ 65535) : Lq (decDigits n) [nb n] nw := by
  intro C hC
  obtain ⟨b, u, hbu⟩ := List.exists_cons_of_ne_nil (digits_ne n)
  have hiw : iw (hd C) = false := by unfold nw at hC; simpa using hC
  have hdC : dg (hd C) = false := by
    cases h : dg (hd C) with
    | false => rfl
    | true => rw [iw_dg h] at hiw; cases hiw
  have hall : ∀ y ∈ b :: u, 48 ≤ y.toNat ∧ y.toNat ≤ 57 := by rw [← hbu]; exact digits_all (n + 1) n (by omega)
  have hdb : dg b.toNat = true := by have := hall b (by simp); simp [dg, this.1, this.2]
  have hsp : span dg (asc u ++ C) = asc u := span_behind dg _ _ (fun y hy => by
    obtain ⟨z, hz, rfl⟩ := List.mem_map.1 hy
    have := hall z (by simp [hz])
    simp [dg, this.1, this.2]) hdC
  rw [hbu]
  have hf : fst1 (b.toNat, [b]) (asc u ++ C) = .ok (nb n, (asc u).length) := by
    unfold fst1
    rw [if_neg (by rw [dg_lt hdb]; decide), if_pos hdb]
    unfold numOf
    rw [hsp, List.drop_left, span_stop iw C hiw, if_neg (by simp)]
    have e : fl ((b.toNat, [b]) :: asc u) = decDigits n := by rw [hbu]; exact fl_asc (b :: u)
    rw [e]
    have e2 : parseUintB 16 (decDigits n) = .ok n := by
      unfold parseUintB
      rw [if_neg (digits_ne n)]
      exact parse_digits (n + 1) n (by omega) hn
    rw [e2]; rfl
  have := lex_one (dg_bl hdb) (by have := hall b (by simp); show b.toNat ≠ 35; omega) hf
  rw [List.drop_left] at this
  exact this
theorem lq_sign (b : UInt8) (hs : sg b.toNat = true) (h58 : b.toNat ≠ 58) (h61 : b.toNat ≠ 61) : Lq [b] [sn [b]] anyC := by
  intro C _
  obtain ⟨g1, g2, g3, g4, g5⟩ := sg_in hs
  have hf : fst1 (b.toNat, [b]) C = .ok (sn [b], 0) := by
    unfold fst1 signOf
    rw [if_neg (by rw [g2]; decide), if_neg (by rw [g3]; decide), if_neg (fun h => h58 h.1), if_neg (fun h => h61 h.1), if_pos hs]; rfl
  exact lex_one g4 g5 hf
theorem lq_eq : Lq [61] [sn [61]] n62 := by
  intro C hC
  have h62 : hd C ≠ 62 := by unfold n62 at hC; simpa using hC
  have hf : fst1 (61, [61]) C = .ok (sn [61], 0) := by
    unfold fst1 signOf
    rw [if_neg (by decide +kernel), if_neg (by decide), if_neg (by rintro ⟨h, -⟩; exact absurd h (by decide)), if_neg (fun h => h62 h.2), if_pos (by decide +kernel)]; rfl
  exact lex_one (by decide) (by decide) hf
theorem lq_put : Lq [58, 61] [sn [58, 61]] anyC := by
  intro C _
  have hf : fst1 (58, [58]) ((61, [61]) :: C) = .ok (sn [58, 61], 1) := by
    unfold fst1 signOf
    rw [if_neg (by decide +kernel), if_neg (by decide), if_pos ⟨rfl, rfl⟩]; rfl
  exact lex_one (by decide) (by decide) hf
theorem lq_arrow : Lq [61, 62] [sn [61, 62]] anyC := by
  intro C _
  have hf : fst1 (61, [61]) ((62, [62]) :: C) = .ok (sn [61, 62], 1) := by
    unfold fst1 signOf
    rw [if_neg (by decide +kernel), if_neg (by decide), if_neg (by rintro ⟨h, -⟩; exact absurd h (by decide)), if_pos ⟨rfl, rfl⟩]; rfl
  exact lex_one (by decide) (by decide) hf
/-- A whole text. -/
theorem Lq.all {a : List UInt8} {l : List Tk} {q : Nat → Bool} (h : Lq a l q) (hq : q 0 = true) : lexS 0 (asc a) = .ok l := by
  have := h [] hq
  rw [List.append_nil, lexS_nil] at this
  rw [this]
  simp [cat]
end Go.Proofs.YtebpapmnkbehnaaGreatDoor
/- The texts of policies, as the document says them, have these tokens: of every policy that is well formed and whose numbers are of 16 bits. -/
set_option linter.unusedVariables false
set_option linter.unusedSimpArgs false
namespace Go.Proofs.YtebpapmnkbehnaaGreatDoor
open Go.Lib

def wrapK (b : Bool) (l : List Tk) : List Tk := if b then sn [40] :: (l ++ [sn [41]]) else l
def sepK (op : Int) : List Tk := if op = 6 then [sn [59]] else [sn [43]]
/-- Its tokens. -/
def toksP : Pl → List Tk
  | .mk op f n kids =>
    if op = 0 then [wd [100, 114, 111, 112]]
    else if op = 1 then [wd [105, 100]]
    else if op = 2 then [wd (nmB f), sn [61], nb n.toNat]
    else if op = 3 then [sn [64], nb f.toNat, sn [61], nb n.toNat]
    else if op = 5 then [wd (nmB f), sn [58, 61], nb n.toNat]
    else if op = 4 then sn [33] :: joinS [] (partsK op kids)
    else joinS (sepK op) (partsK op kids)
  where partsK (op : Int) : List Pl → List (List Tk)
  | [] => []
  | k :: r => wrapK (opW op k) (toksP k) :: partsK op r
theorem toksP_mk (op f n : Int) (kids : List Pl) : toksP (.mk op f n kids) = if op = 0 then [wd [100, 114, 111, 112]]
    else if op = 1 then [wd [105, 100]]
    else if op = 2 then [wd (nmB f), sn [61], nb n.toNat]
    else if op = 3 then [sn [64], nb f.toNat, sn [61], nb n.toNat]
    else if op = 5 then [wd (nmB f), sn [58, 61], nb n.toNat]
    else if op = 4 then sn [33] :: joinS [] (toksP.partsK op kids)
    else joinS (sepK op) (toksP.partsK op kids) := by rw [toksP]

theorem nmB_small (f : Int) (h0 : 0 ≤ f) (h8 : f < 8) : Small (nmB f) := by
  have : f = 0 ∨ f = 1 ∨ f = 2 ∨ f = 3 ∨ f = 4 ∨ f = 5 ∨ f = 6 ∨ f = 7 := by omega
  rcases this with rfl | rfl | rfl | rfl | rfl | rfl | rfl | rfl <;> exact ⟨by decide, by decide, by decide⟩
theorem nw_61 : nw 61 = true := by decide +kernel
theorem nw_58 : nw 58 = true := by decide +kernel
theorem nw_32 : nw 32 = true := by decide +kernel
theorem nw_41 : nw 41 = true := by decide +kernel
theorem dig_n62 (n : Nat) (C : List R) : n62 (hd (asc (decDigits n) ++ C)) = true := by
  obtain ⟨b, u, hbu⟩ := List.exists_cons_of_ne_nil (digits_ne n)
  have := digits_all (n + 1) n (by omega) b (by rw [hbu]; simp)
  rw [hbu, hd_asc]
  unfold n62
  simp only [decide_eq_true_eq]
  omega
theorem lq_eqnum (n : Nat) (hn : n ≤ 65535) : Lq (61 :: decDigits n) [sn [61], nb n] nw :=
  Lq.app (a := [61]) lq_eq (lq_num n hn) fun C _ => dig_n62 n C
theorem lq_putnum (n : Nat) (hn : n ≤ 65535) : Lq (58 :: 61 :: decDigits n) [sn [58, 61], nb n] nw :=
  Lq.app (a := [58, 61]) lq_put (lq_num n hn) fun C _ => rfl
theorem lq_sep (op : Int) : Lq (sepB op) (sepK op) anyC := by
  unfold sepB sepK
  split
  · exact Lq.app (a := [32]) (la := []) (lq_blank 32 (by decide)) (Lq.app (a := [59]) (la := [sn [59]]) (lb := []) (lq_sign 59 (by decide +kernel) (by decide) (by decide)) (lq_blank 32 (by decide)) fun _ _ => rfl) fun _ _ => rfl
  · exact Lq.app (a := [32]) (la := []) (lq_blank 32 (by decide)) (Lq.app (a := [43]) (la := [sn [43]]) (lb := []) (lq_sign 43 (by decide +kernel) (by decide) (by decide)) (lq_blank 32 (by decide)) fun _ _ => rfl) fun _ _ => rfl
theorem sep_nw (op : Int) (s : List UInt8) (C : List R) : nw (hd (asc (sepB op ++ s) ++ C)) = true := by
  unfold sepB
  split <;> exact nw_32
theorem lq_wrap {s : List UInt8} {l : List Tk} (b : Bool) (h : Lq s l nw) : Lq (wrapB b s) (wrapK b l) nw := by
  unfold wrapB wrapK
  cases b with
  | false => exact h
  | true =>
    have h1 := h.cons (b := 41) (r := []) (lb := [sn [41]]) (q' := nw) (lq_sign 41 (by decide +kernel) (by decide) (by decide)).anyof nw_41
    exact Lq.app (a := [40]) (la := [sn [40]]) (lq_sign 40 (by decide +kernel) (by decide) (by decide)) h1 fun _ _ => rfl
/-- Parts with something between. -/
theorem lq_join (op : Int) : ∀ (a : List (List UInt8)) (b : List (List Tk)), a.length = b.length → (∀ i (h : i < a.length) (h' : i < b.length), Lq a[i] b[i] nw) → Lq (a.flatMap fun x => sepB op ++ x) (b.flatMap fun x => sepK op ++ x) nw
  | [], [], _, _ => lq_nil _
  | s :: r, [], h, _ => by simp at h
  | [], l :: t, h, _ => by simp at h
  | s :: r, l :: t, h, hi => by
    have h0 : Lq s l nw := hi 0 (by simp) (by simp)
    have ih := lq_join op r t (by simpa using h) (fun i a b => hi (i + 1) (by simpa using a) (by simpa using b))
    have h1 : Lq (sepB op ++ s) (sepK op ++ l) nw := (lq_sep op).app h0 fun _ _ => rfl
    rw [List.flatMap_cons, List.flatMap_cons]
    refine h1.app ih fun C hC => ?_
    cases r with
    | nil => exact hC
    | cons s' r' => rw [List.flatMap_cons, List.append_assoc]; exact sep_nw op _ C
theorem lq_joinS (op : Int) (a : List (List UInt8)) (b : List (List Tk)) (hl : a.length = b.length) (hi : ∀ i (h : i < a.length) (h' : i < b.length), Lq a[i] b[i] nw) : Lq (joinS (sepB op) a) (joinS (sepK op) b) nw := by
  cases a with
  | nil => cases b with
    | nil => exact lq_nil _
    | cons l t => simp at hl
  | cons s r => cases b with
    | nil => simp at hl
    | cons l t =>
      have h0 : Lq s l nw := hi 0 (by simp) (by simp)
      have ih := lq_join op r t (by simpa using hl) (fun i a b => hi (i + 1) (by simpa using a) (by simpa using b))
      show Lq (s ++ r.flatMap _) (l ++ t.flatMap _) nw
      refine h0.app ih fun C hC => ?_
      cases r with
      | nil => exact hC
      | cons s' r' => rw [List.flatMap_cons, List.append_assoc]; exact sep_nw op _ C
theorem partsK_len (op : Int) : ∀ kids : List Pl, (toksP.partsK op kids).length = kids.length
  | [] => rfl
  | k :: r => by rw [toksP.partsK, List.length_cons, List.length_cons, partsK_len op r]
theorem partsK_get (op : Int) : ∀ (kids : List Pl) (i : Nat) (h : i < kids.length) (h' : i < (toksP.partsK op kids).length), (toksP.partsK op kids)[i] = wrapK (opW op kids[i]) (toksP kids[i])
  | k :: r, 0, _, _ => by simp [toksP.partsK]
  | k :: r, i + 1, h, h' => by
    simp only [toksP.partsK, List.getElem_cons_succ]
    exact partsK_get op r i (by simpa using h) _
/-- A policy's text has its tokens. -/
theorem lex_pl (parts : Int) (hp : parts ≤ 65535) : ∀ (m : Nat) (p : Pl), sizeP p ≤ m → formP parts p = true → okN p → Lq (textP p) (toksP p) nw
  | 0, p, hs, _, _ => absurd (size_pos p) (by omega)
  | m + 1, .mk op f n kids, hs, hf, hn => by
    rw [formP_mk, Bool.and_eq_true] at hf
    rw [okN] at hn
    rw [sizeP_mk] at hs
    have hkid : ∀ i (h : i < kids.length), Lq (wrapB (opW op kids[i]) (textP kids[i])) (wrapK (opW op kids[i]) (toksP kids[i])) nw := fun i h =>
      lq_wrap _ (lex_pl parts hp m kids[i] (by have := size_get kids i h; omega) (form_get parts kids hf.2 i h) (okN_get kids hn.2 i h))
    have hall : ∀ i (h : i < (textP.partsT op kids).length) (h' : i < (toksP.partsK op kids).length), Lq (textP.partsT op kids)[i] (toksP.partsK op kids)[i] nw := by
      intro i h h'
      rw [partsT_get op kids i (by rw [← partsT_len op kids]; exact h), partsK_get op kids i (by rw [← partsT_len op kids]; exact h)]
      exact hkid i _
    have hlen : (textP.partsT op kids).length = (toksP.partsK op kids).length := by rw [partsT_len, partsK_len]
    have hnn : n.toNat ≤ 65535 := by have := hn.1; omega
    rw [textP_mk, toksP_mk]
    by_cases h0 : op = 0
    · rw [if_pos h0, if_pos h0]; exact lq_word ⟨by decide, by decide, by decide⟩
    rw [if_neg h0, if_neg h0]
    by_cases h1 : op = 1
    · rw [if_pos h1, if_pos h1]; exact lq_word ⟨by decide, by decide, by decide⟩
    rw [if_neg h1, if_neg h1]
    by_cases h2 : op = 2
    · rw [if_pos h2, if_pos h2]
      subst h2
      have hb : nodeB parts 2 f n kids = (decide (kids.length = 0) && (decide (0 ≤ f) && decide (f < 8))) := by unfold nodeB; simp
      rw [hb] at hf
      simp only [Bool.and_eq_true, decide_eq_true_eq] at hf
      exact (lq_word (nmB_small f hf.1.2.1 hf.1.2.2)).cons (lq_eqnum n.toNat hnn) nw_61
    rw [if_neg h2, if_neg h2]
    by_cases h3 : op = 3
    · rw [if_pos h3, if_pos h3]
      subst h3
      have hb : nodeB parts 3 f n kids = (decide (kids.length = 0) && (decide (0 ≤ f) && decide (f < parts))) := by unfold nodeB; simp
      rw [hb] at hf
      simp only [Bool.and_eq_true, decide_eq_true_eq] at hf
      exact Lq.app (a := [64]) (la := [sn [64]]) (lq_sign 64 (by decide +kernel) (by decide) (by decide)) ((lq_num f.toNat (by omega)).cons (lq_eqnum n.toNat hnn) nw_61) fun _ _ => rfl
    rw [if_neg h3, if_neg h3]
    by_cases h5 : op = 5
    · rw [if_pos h5, if_pos h5]
      subst h5
      have hb : nodeB parts 5 f n kids = (decide (kids.length = 0) && (decide (1 ≤ f) && decide (f < 8))) := by unfold nodeB; simp
      rw [hb] at hf
      simp only [Bool.and_eq_true, decide_eq_true_eq] at hf
      exact (lq_word (nmB_small f (by omega) hf.1.2.2)).cons (lq_putnum n.toNat hnn) nw_58
    rw [if_neg h5, if_neg h5]
    by_cases h4 : op = 4
    · rw [if_pos h4, if_pos h4]
      subst h4
      have hb : nodeB parts 4 f n kids = (decide (kids.length = 1) && (decide (f = 0) && decide (n = 0)) && pred0 kids) := by unfold nodeB; simp
      rw [hb] at hf
      simp only [Bool.and_eq_true, decide_eq_true_eq] at hf
      obtain ⟨k, rfl⟩ := List.length_eq_one_iff.1 hf.1.1.1
      have hk := hkid 0 (by simp)
      simp only [List.getElem_cons_zero] at hk
      have e1 : joinS [] (textP.partsT 4 [k]) = wrapB (opW 4 k) (textP k) := by simp [textP.partsT, joinS]
      have e2 : joinS [] (toksP.partsK 4 [k]) = wrapK (opW 4 k) (toksP k) := by simp [toksP.partsK, joinS]
      rw [e1, e2]
      exact Lq.app (a := [33]) (la := [sn [33]]) (lq_sign 33 (by decide +kernel) (by decide) (by decide)) hk fun _ _ => rfl
    rw [if_neg h4, if_neg h4]
    exact lq_joinS op _ _ hlen hall
end Go.Proofs.YtebpapmnkbehnaaGreatDoor
/- The reader's model: what it never turns, and how great a program of so many tokens may be; no conditions. -/
set_option linter.unusedVariables false
set_option linter.unusedSimpArgs false
namespace Go.Proofs.YtebpapmnkbehnaaGreatDoor

/-! ### mid is never turned -/
theorem many_mid {L : List Tk} {sign : List UInt8} {g : St → Pl × St} (hg : ∀ σ, (g σ).2.mid = σ.mid) : ∀ (k : Nat) (acc : List Pl) (σ : St), (manyM L sign g k acc σ).2.mid = σ.mid
  | 0, acc, σ => rfl
  | k + 1, acc, σ => by
    unfold manyM
    split
    · rw [many_mid hg k, hg]; rfl
    · rfl
theorem list_mid {L : List Tk} {sign : List UInt8} {op : Int} {g : St → Pl × St} (hg : ∀ σ, (g σ).2.mid = σ.mid) (σ : St) : (listM L sign op g σ).2.mid = σ.mid := by
  unfold listM
  rw [many_mid hg, hg]
theorem atom_mid {L : List Tk} {S : St → Pl × St} (hS : ∀ σ, (S σ).2.mid = σ.mid) (σ : St) : (atomM L S σ).2.mid = σ.mid := by
  unfold atomM
  split
  · rfl
  · split
    · rfl
    · split
      · rw [needs_mid, hS]; rfl
      · split
        · rw [part_mid]; rfl
        · split
          · rw [value_mid]; exact field_mid L σ
          · rw [value_mid, needs_mid]; exact field_mid L σ
theorem unary_mid {L : List Tk} {S : St → Pl × St} (hS : ∀ σ, (S σ).2.mid = σ.mid) : ∀ (k : Nat) (σ : St), (unaryM L S k σ).2.mid = σ.mid
  | 0, σ => rfl
  | k + 1, σ => by
    unfold unaryM
    split
    · rw [unary_mid hS k]; rfl
    · exact atom_mid hS σ
theorem sum_mid (L : List Tk) : ∀ (k : Nat) (σ : St), (sumM L k σ).2.mid = σ.mid
  | 0, σ => rfl
  | k + 1, σ => by
    unfold sumM
    exact list_mid (fun σ => list_mid (fun σ => unary_mid (sum_mid L k) _ σ) σ) σ
theorem with_keeps (l : List Pr) (c : Pr) (σ : St) : (withM l c σ).2.mid = σ.mid := by
  unfold withM
  split <;> rfl
theorem when_keeps (L : List Tk) (r : Rl) (σ : St) : (whenM L r σ).2.mid = σ.mid := by
  unfold whenM
  split
  · rw [with_keeps, part_mid]; rfl
  · show (withM _ _ _).2.mid = _
    rw [with_keeps, value_mid, needs_mid, field_mid]
theorem then_keeps (L : List Tk) (r : Rl) (σ : St) : (thenM L r σ).2.mid = σ.mid := by
  unfold thenM
  show (withM _ _ _).2.mid = _
  rw [with_keeps, part_mid, needs_mid]
theorem amp_keeps {L : List Tk} {g : Rl → St → Rl × St} (hg : ∀ r σ, (g r σ).2.mid = σ.mid) : ∀ (k : Nat) (r : Rl) (σ : St), (ampM L g k r σ).2.mid = σ.mid
  | 0, r, σ => rfl
  | k + 1, r, σ => by
    unfold ampM
    split
    · rw [amp_keeps hg k, hg]; rfl
    · rfl
theorem rule_keeps (L : List Tk) (σ : St) : (ruleM L σ).2.mid = σ.mid := by
  unfold ruleM
  show (ampM _ _ _ _ _).2.mid = _
  rw [amp_keeps (then_keeps L), then_keeps, needs_mid, amp_keeps (when_keeps L), when_keeps]
theorem rules_keeps (L : List Tk) : ∀ (k : Nat) (l : List Rl) (σ : St), (rulesM L k l σ).2.mid = σ.mid
  | 0, l, σ => rfl
  | k + 1, l, σ => by
    rw [rulesM_succ]
    split
    · rw [rules_keeps L k, needs_mid, rule_keeps]; rfl
    · rfl
theorem program_keeps (L : List Tk) (σ : St) : (programM L σ).2.mid = σ.mid := by
  have he : ∀ σ, (endM L σ).mid = σ.mid := fun σ => by unfold endM; split <;> rfl
  unfold programM
  show (endM _ _).mid = _
  rw [he, rules_keeps, needs_mid, sum_mid, needs_mid, lets_mid, start_mid]

/-! ### How great it is -/
/-- The reader goes on, and makes no more nodes than three a token, and one. -/
def Sz (L : List Tk) (g : St → Pl × St) : Prop := ∀ σ, Ok L σ → Up L σ (g σ).2 ∧ sizeP (g σ).1 + 3 * σ.pos ≤ 3 * (g σ).2.pos + 1
theorem many_sz {L : List Tk} (hL : EndL L) {sign : List UInt8} (hs : sign ≠ []) {g : St → Pl × St} (hg : Sz L g) : ∀ (k : Nat) (acc : List Pl) (σ : St), Ok L σ →
    Up L σ (manyM L sign g k acc σ).2 ∧ acc.length ≤ (manyM L sign g k acc σ).1.length ∧ sizeP.sizeL (manyM L sign g k acc σ).1 + 2 * (manyM L sign g k acc σ).1.length + 3 * σ.pos ≤ sizeP.sizeL acc + 2 * acc.length + 3 * (manyM L sign g k acc σ).2.pos
  | 0, acc, σ, h => ⟨⟨Nat.le_refl _, h⟩, Nat.le_refl _, Nat.le_refl _⟩
  | k + 1, acc, σ, h => by
    unfold manyM
    split
    · rename_i hi
      have h1 := next_of_is hL h hs hi
      have h2 := hg σ.next h1
      have h3 := many_sz hL hs hg k (acc ++ [(g σ.next).1]) _ h2.1.2
      have e1 : sizeP.sizeL (acc ++ [(g σ.next).1]) = sizeP.sizeL acc + sizeP (g σ.next).1 := by rw [sizeL_app]; simp [sizeP.sizeL]
      have e2 : (acc ++ [(g σ.next).1]).length = acc.length + 1 := by simp
      have e3 : σ.next.pos = σ.pos + 1 := rfl
      rw [e1, e2] at h3
      have h4 := h2.2
      rw [e3] at h4
      exact ⟨((up_next h1).trans h2.1).trans h3.1, by omega, by omega⟩
    · exact ⟨⟨Nat.le_refl _, h⟩, Nat.le_refl _, Nat.le_refl _⟩
theorem joined_sz (op : Int) (l : List Pl) (hl : 1 ≤ l.length) : sizeP (joinedM op l) + 2 ≤ sizeP.sizeL l + 2 * l.length := by
  unfold joinedM
  split
  · simp [sizeP.sizeL]
  · rename_i h
    rw [sizeP_mk]
    have : 2 ≤ l.length := by
      match l, h with
      | [], _ => simp at hl
      | [p], h => exact absurd rfl (h p)
      | _ :: _ :: _, _ => simp
    omega
theorem list_sz {L : List Tk} (hL : EndL L) {sign : List UInt8} (hs : sign ≠ []) (op : Int) {g : St → Pl × St} (hg : Sz L g) : Sz L (listM L sign op g) := by
  intro σ h
  have h1 := hg σ h
  have h2 := many_sz hL hs hg L.length [(g σ).1] _ h1.1.2
  unfold listM
  have e1 : sizeP.sizeL [(g σ).1] = sizeP (g σ).1 := by simp [sizeP.sizeL]
  rw [e1] at h2
  have e2 : [(g σ).1].length = 1 := rfl
  rw [e2] at h2
  have h3 := joined_sz op (manyM L sign g L.length [(g σ).1] (g σ).2).1 h2.2.1
  refine ⟨h1.1.trans h2.1, ?_⟩
  have h4 := h1.2
  have h5 := h2.2.2
  show sizeP (joinedM op _) + _ ≤ 3 * (manyM _ _ _ _ _ _).2.pos + 1
  omega
theorem leaf_sz (op f n : Int) : sizeP (.mk op f n []) = 1 := by rw [sizeP_mk]; simp [sizeP.sizeL]
theorem atom_sz {L : List Tk} (hL : EndL L) {S : St → Pl × St} (hS : Sz L S) : Sz L (atomM L S) := by
  intro σ h
  unfold atomM
  split
  · have h1 := next_of_is (s := [105, 100]) hL h (by decide) ‹_›
    exact ⟨up_next h1, by rw [leaf_sz]; show _ ≤ 3 * (σ.pos + 1) + 1; omega⟩
  · split
    · have h1 := next_of_is (s := [100, 114, 111, 112]) hL h (by decide) ‹_›
      exact ⟨up_next h1, by rw [leaf_sz]; show _ ≤ 3 * (σ.pos + 1) + 1; omega⟩
    · split
      · have h1 := next_of_is (s := [40]) hL h (by decide) ‹_›
        have h2 := hS σ.next h1
        have h3 := up_needs hL (s := [41]) (by decide) h2.1.2
        refine ⟨((up_next h1).trans h2.1).trans h3, ?_⟩
        have e3 : σ.next.pos = σ.pos + 1 := rfl
        have h4 := h2.2
        have h5 := h3.1
        show sizeP (S σ.next).1 + _ ≤ 3 * (needsM L [41] (S σ.next).2).pos + 1
        omega
      · split
        · have h1 := next_of_is (s := [64]) hL h (by decide) ‹_›
          have h2 := (up_next h1).trans (up_part hL (s := [61]) (by decide) h1)
          refine ⟨h2, ?_⟩
          have := h2.1
          rw [leaf_sz]
          show _ ≤ 3 * (partM L [61] σ.next).2.pos + 1
          omega
        · split
          · have h1 := up_field hL h
            have h2 := next_of_is (s := [58, 61]) hL h1.2 (by decide) ‹_›
            have h3 := (h1.trans (up_next h2)).trans (up_value hL h2)
            refine ⟨h3, ?_⟩
            have := h3.1
            rw [leaf_sz]
            show _ ≤ 3 * (valueM L (fieldM L σ).2.next).2.pos + 1
            omega
          · have h1 := up_field hL h
            have h2 := h1.trans (up_needs hL (s := [61]) (by decide) h1.2)
            have h3 := h2.trans (up_value hL h2.2)
            refine ⟨h3, ?_⟩
            have := h3.1
            rw [leaf_sz]
            show _ ≤ 3 * (valueM L (needsM L [61] (fieldM L σ).2)).2.pos + 1
            omega
theorem unary_sz {L : List Tk} (hL : EndL L) {S : St → Pl × St} (hS : Sz L S) : ∀ k, Sz L (unaryM L S k)
  | 0 => fun σ h => ⟨⟨Nat.le_refl _, h⟩, by show sizeP (.mk 0 0 0 []) + _ ≤ _; rw [leaf_sz]; show _ ≤ 3 * σ.pos + 1; omega⟩
  | k + 1 => fun σ h => by
    unfold unaryM
    split
    · have h1 := next_of_is (s := [33]) hL h (by decide) ‹_›
      have h2 := unary_sz hL hS k σ.next h1
      refine ⟨(up_next h1).trans h2.1, ?_⟩
      have e3 : σ.next.pos = σ.pos + 1 := rfl
      have h4 := h2.2
      show sizeP (.mk 4 0 0 [(unaryM L S k σ.next).1]) + _ ≤ 3 * (unaryM L S k σ.next).2.pos + 1
      rw [sizeP_mk]
      simp only [sizeP.sizeL]
      omega
    · exact atom_sz hL hS σ h
theorem sum_sz {L : List Tk} (hL : EndL L) : ∀ k, Sz L (sumM L k)
  | 0 => fun σ h => ⟨⟨Nat.le_refl _, h⟩, by show sizeP (.mk 0 0 0 []) + _ ≤ _; rw [leaf_sz]; show _ ≤ 3 * σ.pos + 1; omega⟩
  | k + 1 => fun σ h => by
    unfold sumM
    exact list_sz hL (by decide) 7 (list_sz hL (by decide) 6 (unary_sz hL (sum_sz hL k) _)) σ h
end Go.Proofs.YtebpapmnkbehnaaGreatDoor
