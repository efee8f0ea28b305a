/- The texts of policies, rules and programs, as the document says them; what is well formed with numbers of 16 bits; no condition. -/
import Derived.Test.YtebpapmnkbehnaaGreatDoorK1
import Derived.Test.YtebpapmnkbehnaaGreatDoorK0
import Derived.Lib.ItoaNum
import Derived.Test.YtebpapmnkbehnaaGreatDoorM2
import Derived.Lib.Join
import Derived.Test.YtebpapmnkbehnaaGreatDoorA5
import Derived.Test.YtebpapmnkbehnaaGreatDoorP9
set_option linter.unusedVariables false
set_option linter.unusedSimpArgs false
namespace Go.Proofs.YtebpapmnkbehnaaGreatDoor
open Go.Lib

/-- A field's name. -/
def nmB (f : Int) : List UInt8 := nm8.getD f.toNat []
/-- A kid stands between ( and )? -/
def opW (op : Int) (k : Pl) : Bool := decide (k.op = 7) || (decide (k.op = 6) && !decide (op = 7))
def wrapB (b : Bool) (s : List UInt8) : List UInt8 := if b then 40 :: (s ++ [41]) else s
/-- With something between. -/
def joinS {α : Type} (sep : List α) : List (List α) → List α
  | [] => []
  | a :: r => a ++ r.flatMap fun b => sep ++ b
def sepB (op : Int) : List UInt8 := if op = 6 then [32, 59, 32] else [32, 43, 32]
/-- A policy's text. -/
def textP : Pl → List UInt8
  | .mk op f n kids =>
    if op = 0 then [100, 114, 111, 112]
    else if op = 1 then [105, 100]
    else if op = 2 then nmB f ++ 61 :: decDigits n.toNat
    else if op = 3 then 64 :: (decDigits f.toNat ++ 61 :: decDigits n.toNat)
    else if op = 5 then nmB f ++ 58 :: 61 :: decDigits n.toNat
    else if op = 4 then 33 :: joinS [] (partsT op kids)
    else joinS (sepB op) (partsT op kids)
  where partsT (op : Int) : List Pl → List (List UInt8)
  | [] => []
  | k :: r => wrapB (opW op k) (textP k) :: partsT op r
theorem textP_mk (op f n : Int) (kids : List Pl) : textP (.mk op f n kids) = if op = 0 then [100, 114, 111, 112]
    else if op = 1 then [105, 100]
    else if op = 2 then nmB f ++ 61 :: decDigits n.toNat
    else if op = 3 then 64 :: (decDigits f.toNat ++ 61 :: decDigits n.toNat)
    else if op = 5 then nmB f ++ 58 :: 61 :: decDigits n.toNat
    else if op = 4 then 33 :: joinS [] (textP.partsT op kids)
    else joinS (sepB op) (textP.partsT op kids) := by rw [textP]
theorem partsT_len (op : Int) : ∀ kids : List Pl, (textP.partsT op kids).length = kids.length
  | [] => rfl
  | k :: r => by rw [textP.partsT, List.length_cons, List.length_cons, partsT_len op r]
theorem partsT_get (op : Int) : ∀ (kids : List Pl) (i : Nat) (h : i < kids.length) (h' : i < (textP.partsT op kids).length), (textP.partsT op kids)[i] = wrapB (opW op kids[i]) (textP kids[i])
  | k :: r, 0, _, _ => by simp [textP.partsT]
  | k :: r, i + 1, h, h' => by
    simp only [textP.partsT, List.getElem_cons_succ]
    exact partsT_get op r i (by simpa using h) _
theorem form_get (parts : Int) : ∀ (kids : List Pl), formP.formL parts kids = true → ∀ i (h : i < kids.length), formP parts kids[i] = true
  | k :: r, hf, 0, _ => by rw [formP.formL, Bool.and_eq_true] at hf; simpa using hf.1
  | k :: r, hf, i + 1, h => by
    rw [formP.formL, Bool.and_eq_true] at hf
    simpa using form_get parts r hf.2 i (by simpa using h)
def whenT (c : Pr) : List UInt8 := nmB c.1 ++ 61 :: decDigits c.2
def guardT (c : Pr) : List UInt8 := 64 :: (decDigits c.1.toNat ++ 61 :: decDigits c.2)
def thenT (c : Pr) : List UInt8 := 64 :: (decDigits c.1.toNat ++ 58 :: 61 :: decDigits c.2)
/-- A rule's line. -/
def ruleT (r : Rl) : List UInt8 := [111, 110, 32] ++ (joinS [32, 38, 32] (r.when.map whenT ++ r.guard.map guardT) ++ ([32, 61, 62, 32] ++ (joinS [32, 38, 32] (r.thn.map thenT) ++ [32, 46])))
/-- A program's text. -/
def textG (p : Pg) : List UInt8 := [105, 110, 105, 116] ++ (p.init.flatMap (fun n => 32 :: decDigits n) ++ ([32, 46, 10] ++ ([112, 111, 108, 105, 99, 121, 32] ++ (textP p.pol ++ ([32, 46, 10] ++ p.rules.flatMap fun r => ruleT r ++ [10])))))
theorem rise_in : ∀ (l : List Pr) (a e : Int), riseB a e l = true → (∀ c ∈ l, a ≤ c.1 ∧ c.1 < e) ∧ l.Pairwise (fun x y => x.1 < y.1)
  | [], _, _, _ => ⟨fun _ h => (by cases h), List.Pairwise.nil⟩
  | c :: r, a, e, h => by
    unfold riseB at h
    simp only [Bool.and_eq_true, decide_eq_true_eq] at h
    obtain ⟨⟨h1, h2⟩, h3⟩ := h
    obtain ⟨i1, i2⟩ := rise_in r (c.1 + 1) e h3
    refine ⟨fun x hx => ?_, List.pairwise_cons.2 ⟨fun x hx => ?_, i2⟩⟩
    · rcases List.mem_cons.1 hx with rfl | hx
      · exact ⟨h1, h2⟩
      · have := i1 x hx; omega
    · have := i1 x hx; omega
/-- A rule whose numbers are of 16 bits, its parts too. -/
structure RlN (parts : Int) (r : Rl) : Prop where
  form : ruleB parts r = true
  w : ∀ c ∈ r.when, c.2 ≤ 65535
  g : ∀ c ∈ r.guard, c.2 ≤ 65535
  t : ∀ c ∈ r.thn, c.2 ≤ 65535
theorem RlN.open {parts : Int} {r : Rl} (h : RlN parts r) : riseB 0 8 r.when = true ∧ portB r.when = true ∧ riseB 0 parts r.guard = true ∧ riseB 0 parts r.thn = true ∧ 0 < r.thn.length := by
  have := h.form
  unfold ruleB at this
  simp only [Bool.and_eq_true, decide_eq_true_eq] at this
  exact ⟨this.1.1.1.1, this.1.1.1.2, this.1.1.2, this.1.2, this.2⟩

/-- A program that is well formed, its numbers of 16 bits. -/
structure PgN (p : Pg) : Prop where
  chk : checkM p = 0
  ni : ∀ n ∈ p.init, n ≤ 65535
  np : okN p.pol
  nr : ∀ r ∈ p.rules, (∀ c ∈ r.when, c.2 ≤ 65535) ∧ (∀ c ∈ r.guard, c.2 ≤ 65535) ∧ (∀ c ∈ r.thn, c.2 ≤ 65535)
theorem chk_open {p : Pg} (h : checkM p = 0) : longB p = false ∧ formP p.init.length p.pol = true ∧ ∀ r ∈ p.rules, ruleB p.init.length r = true := by
  unfold checkM at h
  split at h
  · cases h
  · rename_i hl
    split at h
    · rename_i hf
      rw [Bool.and_eq_true, List.all_eq_true] at hf
      exact ⟨by simpa using hl, hf.1, hf.2⟩
    · cases h
theorem PgN.len {p : Pg} (h : PgN p) : 1 ≤ p.init.length ∧ p.init.length ≤ 4 ∧ p.rules.length ≤ 24 ∧ sizeP p.pol ≤ 300 ∧ depthP p.pol ≤ 20 := by
  have := (chk_open h.chk).1
  unfold longB at this
  simp only [Bool.or_eq_false_iff, decide_eq_false_iff_not] at this
  omega
end Go.Proofs.YtebpapmnkbehnaaGreatDoor
/- How long the texts of policies and rules are, and that the library's join is the texts' own; policies that are well formed, numbers of 16 bits. -/
set_option linter.unusedVariables false
set_option linter.unusedSimpArgs false
namespace Go.Proofs.YtebpapmnkbehnaaGreatDoor
open Go.Lib

theorem join_S (sep : List UInt8) : ∀ xs : List (List UInt8), Lib.join xs sep = joinS sep xs
  | [] => by simp [Lib.join, joinS, List.intercalate]
  | [a] => by simp [Lib.join, joinS, List.intercalate]
  | a :: b :: r => by
    have ih := join_S sep (b :: r)
    unfold Lib.join List.intercalate at ih ⊢
    rw [List.intersperse_cons_cons, List.flatten_cons, List.flatten_cons, ih]
    simp [joinS]
theorem flat_le (sep : List UInt8) (q : Nat) : ∀ xs : List (List UInt8), (∀ x ∈ xs, x.length ≤ q) → (xs.flatMap fun b => sep ++ b).length ≤ xs.length * (sep.length + q)
  | [], _ => by simp
  | a :: r, h => by
    have ih := flat_le sep q r fun x hx => h x (List.mem_cons_of_mem _ hx)
    have := h a (List.mem_cons_self ..)
    rw [List.flatMap_cons, List.length_append, List.length_append, List.length_cons, Nat.add_mul]
    omega
theorem joinS_le (sep : List UInt8) (q : Nat) (xs : List (List UInt8)) (h : ∀ x ∈ xs, x.length ≤ q) : (joinS sep xs).length ≤ xs.length * (sep.length + q) := by
  cases xs with
  | nil => simp [joinS]
  | cons a r =>
    have h1 := flat_le sep q r fun x hx => h x (List.mem_cons_of_mem _ hx)
    have := h a (List.mem_cons_self ..)
    unfold joinS
    rw [List.length_append, List.length_cons, Nat.add_mul]
    omega
theorem nmB_len (f : Int) : (nmB f).length ≤ 3 := by
  unfold nmB
  generalize f.toNat = k
  match k with
  | 0 => decide
  | 1 => decide
  | 2 => decide
  | 3 => decide
  | 4 => decide
  | 5 => decide
  | 6 => decide
  | 7 => decide
  | k + 8 => simp [nm8]
theorem whenT_len (c : Pr) (hn : c.2 ≤ 65535) : (whenT c).length ≤ 20 := by
  have := nmB_len c.1
  have := digits_len5 c.2 hn
  unfold whenT
  simp only [List.length_append, List.length_cons]
  omega
theorem guardT_len (c : Pr) (h : c.1.toNat ≤ 65535) (hn : c.2 ≤ 65535) : (guardT c).length ≤ 20 := by
  have := digits_len5 c.1.toNat h
  have := digits_len5 c.2 hn
  unfold guardT
  simp only [List.length_append, List.length_cons]
  omega
theorem thenT_len (c : Pr) (h : c.1.toNat ≤ 65535) (hn : c.2 ≤ 65535) : (thenT c).length ≤ 20 := by
  have := digits_len5 c.1.toNat h
  have := digits_len5 c.2 hn
  unfold thenT
  simp only [List.length_append, List.length_cons]
  omega
theorem sepB_len (op : Int) : (sepB op).length = 3 := by unfold sepB; split <;> rfl
theorem wrapB_le (b : Bool) (s : List UInt8) : (wrapB b s).length ≤ s.length + 2 := by
  cases b <;> simp [wrapB]
theorem pre_le : ∀ (kids : List Pl) (op : Int) (c : Nat), (∀ k ∈ kids, (textP k).length + 6 ≤ 16 * sizeP k) → (joinS (sepB op) (textP.partsT op kids)).length ≤ 16 * sizeP.sizeL kids
  | [], op, c, _ => by simp [textP.partsT, joinS]
  | k :: r, op, c, h => by
    have hr : ∀ r : List Pl, (∀ k ∈ r, (textP k).length + 6 ≤ 16 * sizeP k) → ((textP.partsT op r).flatMap fun b => sepB op ++ b).length ≤ 16 * sizeP.sizeL r := by
      intro r
      induction r with
      | nil => intro _; simp [textP.partsT]
      | cons a t ih =>
        intro h
        have h1 := h a (List.mem_cons_self ..)
        have h2 := wrapB_le (opW op a) (textP a)
        have h3 := ih fun x hx => h x (List.mem_cons_of_mem _ hx)
        rw [textP.partsT, sizeP.sizeL, List.flatMap_cons, List.length_append, List.length_append, sepB_len]
        omega
    have h1 := h k (List.mem_cons_self ..)
    have h2 := wrapB_le (opW op k) (textP k)
    have h3 := hr r fun x hx => h x (List.mem_cons_of_mem _ hx)
    rw [textP.partsT, sizeP.sizeL]
    unfold joinS
    rw [List.length_append]
    omega
theorem textP_len (parts : Int) (hp : parts ≤ 9) : ∀ (m : Nat) (p : Pl), sizeP p ≤ m → formP parts p = true → okN p → (textP p).length + 6 ≤ 16 * sizeP p
  | 0, p, hs, _, _ => absurd (size_pos p) (by omega)
  | m + 1, .mk op f n kids, hs, hf, hn => by
    rw [formP, Bool.and_eq_true] at hf
    rw [okN] at hn
    rw [sizeP_mk] at hs ⊢
    have hkid : ∀ k ∈ kids, (textP k).length + 6 ≤ 16 * sizeP k := fun k hk => by
      obtain ⟨i, hi, rfl⟩ := List.getElem_of_mem hk
      exact textP_len parts hp m kids[i] (by have := size_get kids i hi; omega) (form_get parts kids hf.2 i hi) (okN_get kids hn.2 i hi)
    have hj := pre_le kids op 0 hkid
    have hnn : n.toNat ≤ 65535 := by have := hn.1; omega
    have hd := digits_len5 n.toNat hnn
    have hm := nmB_len f
    rw [textP_mk]
    by_cases h0 : op = 0
    · rw [if_pos h0]; simp; omega
    rw [if_neg h0]
    by_cases h1 : op = 1
    · rw [if_pos h1]; simp; omega
    rw [if_neg h1]
    by_cases h2 : op = 2
    · rw [if_pos h2]; simp only [List.length_append, List.length_cons]; omega
    rw [if_neg h2]
    by_cases h3 : op = 3
    · rw [if_pos h3]
      subst h3
      have hb : nodeB parts 3 f n kids = (decide (kids.length = 0) && (decide (0 ≤ f) && decide (f < parts))) := by unfold nodeB; simp
      rw [hb] at hf
      simp only [Bool.and_eq_true, decide_eq_true_eq] at hf
      have h9 : f.toNat < 10 := by omega
      have hd1 : (decDigits f.toNat).length ≤ 1 := by
        generalize f.toNat = k at h9
        match k, h9 with
        | 0, _ => decide +kernel
        | 1, _ => decide +kernel
        | 2, _ => decide +kernel
        | 3, _ => decide +kernel
        | 4, _ => decide +kernel
        | 5, _ => decide +kernel
        | 6, _ => decide +kernel
        | 7, _ => decide +kernel
        | 8, _ => decide +kernel
        | 9, _ => decide +kernel
      simp only [List.length_append, List.length_cons]; omega
    rw [if_neg h3]
    by_cases h5 : op = 5
    · rw [if_pos h5]; simp only [List.length_append, List.length_cons]; omega
    rw [if_neg h5]
    by_cases h4 : op = 4
    · rw [if_pos h4]
      subst h4
      have hb : nodeB parts 4 f n kids = (decide (kids.length = 1) && (decide (f = 0) && decide (n = 0)) && pred0 kids) := by unfold nodeB; simp
      rw [hb] at hf
      simp only [Bool.and_eq_true, decide_eq_true_eq] at hf
      obtain ⟨k, rfl⟩ := List.length_eq_one_iff.1 hf.1.1.1
      have e1 : joinS [] (textP.partsT 4 [k]) = wrapB (opW 4 k) (textP k) := by simp [textP.partsT, joinS]
      have := hkid k (by simp)
      have := wrapB_le (opW 4 k) (textP k)
      rw [e1]
      simp only [List.length_cons, sizeP.sizeL]; omega
    rw [if_neg h4]
    omega
end Go.Proofs.YtebpapmnkbehnaaGreatDoor
/- What show's number, field and part, and packet's Name, answer; numbers of 16 bits. -/
set_option linter.unusedVariables false
set_option linter.unusedSimpArgs false
namespace Go.Proofs.YtebpapmnkbehnaaGreatDoor
open Go.RowKit Go.Joins Go.Lib

/-- What show reads of the listed variables. -/
structure Es (w : World) : Prop where
  pow : Lib.TabIs Tryz.prog w "internal/strconv.uint64pow10" .u64 Lib.pow10Tab
  names : NamesIs w
theorem Es.of {w : World} (h : Env w) : Es w := ⟨h.pow, h.names⟩
theorem Es.below {w w' : World} (h : Es w) (hb : Below w.heap.size w w') : Es w' := ⟨tab_stays gPow h.pow hb (Nat.le_refl _), h.names.below hb⟩
theorem sh_cat (a b : List UInt8) : (⟨a.toArray⟩ : ByteArray) ++ ⟨b.toArray⟩ = ⟨(a ++ b).toArray⟩ := by
  apply ByteArray.ext
  rw [ByteArray.data_append]
  simp
theorem sh_itoa (n : Nat) (hn : n ≤ 65535) (w : World) (h : Es w) : Calls Tryz.prog 31 #[.int .i64 (n : Int)] w fun e w' => e = .returned (.string ⟨(decDigits n).toArray⟩) ∧ Below w.heap.size w w' := by
  refine (Tryz.strconv_Itoa (n : Int) (by omega) (by omega) w h.pow).mono ?_
  rintro e w' ⟨he, k, os, hw⟩
  refine ⟨?_, by rw [hw]; exact below_grown w k os⟩
  rw [he]
  unfold Lib.itoa
  rw [if_neg (by omega), Int.toNat_natCast]
set_option maxHeartbeats 1000000 in
theorem sh_num (n : Nat) (hn : n ≤ 65535) (w : World) (h : Es w) : Calls Tryz.prog 15 #[.int .u16 (n : Int)] w fun e w' => e = .returned (.string ⟨(decDigits n).toArray⟩) ∧ Below w.heap.size w w' := by
  have c := sh_itoa n hn w h
  have ew : wrap64 (n : Int) = (n : Int) := by unfold wrap64; omega
  clear h
  go_enter Tryz.func15, Tryz.ntmps15
  go_wp2_with fail
  refine c.mono ?_
  rintro e w1 ⟨rfl, hb⟩
  go_wp2
  go_ret
  exact ⟨rfl, hb⟩
set_option maxHeartbeats 1000000 in
theorem sh_isField (f : Int) (w : World) (h0 : 0 ≤ f) (h8 : f < 8) : Calls Tryz.prog 74 #[.int .i64 f] w fun e w' => e = .returned (.bool true) ∧ w' = w := by
  go_enter Tryz.func74, Tryz.ntmps74
  go_wp2
  go_ret
  exact ⟨by simp [h0, h8], rfl⟩
set_option maxHeartbeats 4000000 in
theorem sh_name (f : Int) (w : World) (h : NamesIs w) (h0 : 0 ≤ f) (h8 : f < 8) : Calls Tryz.prog 55 #[.int .i64 f] w fun e w' => e = .returned (.string ⟨(nmB f).toArray⟩) ∧ w' = w := by
  obtain ⟨c0, c1, c2, c3, c4, c5, c6, c7⟩ := h
  have hc : f = 0 ∨ f = 1 ∨ f = 2 ∨ f = 3 ∨ f = 4 ∨ f = 5 ∨ f = 6 ∨ f = 7 := by omega
  rcases hc with rfl | rfl | rfl | rfl | rfl | rfl | rfl | rfl
  all_goals
    go_enter Tryz.func55, Tryz.ntmps55
    go_wp2_with (go_at_call 74; refine (sh_isField _ _ (by omega) (by omega)).mono ?_; rintro e w' ⟨rfl, rfl⟩)
    go_ret
    exact ⟨rfl, rfl⟩
set_option maxHeartbeats 1000000 in
theorem field_text (f : Int) (s : List UInt8) (n : Nat) (w : World) (h : Es w) (h0 : 0 ≤ f) (h8 : f < 8) (hn : n ≤ 65535) (hs : s.length ≤ 3) :
    Calls Tryz.prog 32 #[.int .i64 f, .string ⟨s.toArray⟩, .int .u16 (n : Int)] w fun e w' => e = .returned (.string ⟨(nmB f ++ (s ++ decDigits n)).toArray⟩) ∧ Below w.heap.size w w' := by
  have cN := sh_name f w h.names h0 h8
  have hl1 := nmB_len f
  have hl2 := digits_len5 n hn
  have cM := sh_num n hn w h
  clear h
  go_enter Tryz.func32, Tryz.ntmps32
  go_wp2_with fail
  refine cN.mono ?_
  rintro e w1 ⟨rfl, hw1⟩
  subst w1
  go_wp2_with fail
  refine cM.mono ?_
  rintro e w2 ⟨rfl, hb⟩
  go_wp2
  go_ret
  exact ⟨by simp only [sh_cat, List.append_assoc]; rfl, hb⟩
set_option maxHeartbeats 1000000 in
theorem part_text (f : Nat) (s : List UInt8) (n : Nat) (w : World) (h : Es w) (hf : f ≤ 65535) (hn : n ≤ 65535) (hs : s.length ≤ 3) :
    Calls Tryz.prog 33 #[.int .i64 (f : Int), .string ⟨s.toArray⟩, .int .u16 (n : Int)] w fun e w' => e = .returned (.string ⟨(64 :: (decDigits f ++ (s ++ decDigits n))).toArray⟩) ∧ Below w.heap.size w w' := by
  have cN := sh_itoa f hf w h
  have hl1 := digits_len5 f hf
  have hl2 := digits_len5 n hn
  have cM : Hid (∀ W, Below w.heap.size w W → Calls Tryz.prog 15 #[.int .u16 (n : Int)] W fun e w' => e = .returned (.string ⟨(decDigits n).toArray⟩) ∧ Below W.heap.size W w') := fun W hW => sh_num n hn W (h.below hW)
  clear h
  go_enter Tryz.func33, Tryz.ntmps33
  go_wp2_with fail
  refine cN.mono ?_
  rintro e w1 ⟨rfl, hb1⟩
  go_wp2_with fail
  refine (cM.out w1 hb1).mono ?_
  rintro e w2 ⟨rfl, hb⟩
  go_wp2
  go_ret
  exact ⟨by rw [show (64 :: (decDigits f ++ (s ++ decDigits n))) = [64] ++ decDigits f ++ s ++ decDigits n by simp, ← sh_cat, ← sh_cat, ← sh_cat]; rfl, hb1.trans (hb.mono hb1.size)⟩
end Go.Proofs.YtebpapmnkbehnaaGreatDoor
/- What show's isWrapped, kidText, kidsText and polText answer: a policy's text; policies that are well formed, numbers of 16 bits. -/
set_option linter.unusedVariables false
set_option linter.unusedSimpArgs false
namespace Go.Proofs.YtebpapmnkbehnaaGreatDoor
open Go.RowKit Go.Joins Go.Lib

theorem info9s : (Tryz.prog.info? 9).map (fun i => (i.zero, i.size, i.bytes)) = some (some (.string ⟨#[]⟩), 1, 16) := by kernel_rfl
theorem par_str (t : List UInt8) : (⟨#[40]⟩ : ByteArray) ++ ⟨t.toArray⟩ ++ ⟨#[41]⟩ = ⟨(40 :: (t ++ [41])).toArray⟩ := by
  rw [show (⟨#[40]⟩ : ByteArray) = ⟨[40].toArray⟩ from rfl, show (⟨#[41]⟩ : ByteArray) = ⟨[41].toArray⟩ from rfl, sh_cat, sh_cat]
  simp
theorem not_str (t : List UInt8) : (⟨#[33]⟩ : ByteArray) ++ ⟨t.toArray⟩ = ⟨(33 :: t).toArray⟩ := by
  rw [show (⟨#[33]⟩ : ByteArray) = ⟨[33].toArray⟩ from rfl, sh_cat]
  simp

set_option maxHeartbeats 1000000 in
theorem wrapped_any (xo xf xn : Int) (s1 : Option Addr) (n1 c1 : Nat) (yo yf yn : Int) (s2 : Option Addr) (n2 c2 : Nat) (w : World) :
    Calls Tryz.prog 56 #[nv ⟨xo, xf, xn, .slice s1 n1 c1⟩, nv ⟨yo, yf, yn, .slice s2 n2 c2⟩] w fun e w' => e = .returned (.bool (decide (yo = 7) || (decide (yo = 6) && !decide (xo = 7)))) ∧ Below w.heap.size w w' := by
  by_cases h7 : yo = 7
  · subst h7
    go_enter Tryz.func56, Tryz.ntmps56
    go_wp2
    go_ret
    exact ⟨rfl, ((Below.refl _ w).alloc (Nat.le_refl _) _).alloc (by simp) _⟩
  · have d7 : (yo == 7) = false := by simpa using h7
    have e7 : decide (yo = 7) = false := by simpa using h7
    rw [e7]
    by_cases h6 : yo = 6
    · subst h6
      by_cases hx : xo = 7
      · subst hx
        go_enter Tryz.func56, Tryz.ntmps56
        go_wp2
        go_ret
        exact ⟨rfl, ((Below.refl _ w).alloc (Nat.le_refl _) _).alloc (by simp) _⟩
      · have dx : (xo != 7) = true := by simpa using hx
        have ex : decide (xo = 7) = false := by simpa using hx
        rw [ex]
        go_enter Tryz.func56, Tryz.ntmps56
        go_wp2
        go_ret
        exact ⟨rfl, ((Below.refl _ w).alloc (Nat.le_refl _) _).alloc (by simp) _⟩
    · have d6 : (yo == 6) = false := by simpa using h6
      have e6 : decide (yo = 6) = false := by simpa using h6
      rw [e6]
      go_enter Tryz.func56, Tryz.ntmps56
      go_wp2
      go_ret
      exact ⟨rfl, ((Below.refl _ w).alloc (Nat.le_refl _) _).alloc (by simp) _⟩

theorem heap_new2 (w : World) (a b : Obj) : ((w.alloc a).alloc b).heap[w.heap.size + 1]? = some b := by
  have := heap_alloc_new (w.alloc a) b
  rw [show (w.alloc a).heap.size = w.heap.size + 1 by simp] at this
  exact this
set_option maxHeartbeats 1000000 in
theorem kid_text (xo xf xn : Int) (s1 : Option Addr) (n1 c1 : Nat) (yo yf yn : Int) (s2 : Option Addr) (n2 c2 : Nat) (K : Pl) (hop : yo = K.op) (hl : (textP K).length ≤ 100000) (w : World)
    (c : ∀ W, Below w.heap.size w W → Calls Tryz.prog 16 #[nv ⟨yo, yf, yn, .slice s2 n2 c2⟩] W fun e w' => e = .returned (.string ⟨(textP K).toArray⟩) ∧ Below W.heap.size W w') :
    Calls Tryz.prog 34 #[nv ⟨xo, xf, xn, .slice s1 n1 c1⟩, nv ⟨yo, yf, yn, .slice s2 n2 c2⟩] w fun e w' => e = .returned (.string ⟨(wrapB (opW xo K) (textP K)).toArray⟩) ∧ Below w.heap.size w w' := by
  have C : Hid _ := c
  have HB0 : Hid (Below w.heap.size w ((w.alloc (pobj ⟨xo, xf, xn, .slice s1 n1 c1⟩)).alloc (pobj ⟨yo, yf, yn, .slice s2 n2 c2⟩))) := ((Below.refl _ w).alloc (Nat.le_refl _) _).alloc (by simp) _
  have hy0 : Hid (((w.alloc (pobj ⟨xo, xf, xn, .slice s1 n1 c1⟩)).alloc (pobj ⟨yo, yf, yn, .slice s2 n2 c2⟩)).heap[w.heap.size + 1]? = some (pobj ⟨yo, yf, yn, .slice s2 n2 c2⟩)) := heap_new2 _ _ _
  have hW : Hid (opW xo K = (decide (yo = 7) || (decide (yo = 6) && !decide (xo = 7)))) := by show _ = _; unfold opW; rw [hop]
  have cW := wrapped_any xo xf xn s1 n1 c1 yo yf yn s2 n2 c2 ((w.alloc (pobj ⟨xo, xf, xn, .slice s1 n1 c1⟩)).alloc (pobj ⟨yo, yf, yn, .slice s2 n2 c2⟩))
  rw [← hW.out] at cW
  clear c hop hW
  cases hb : opW xo K with
  | true =>
    rw [hb] at cW
    clear hb
    go_enter Tryz.func34, Tryz.ntmps34
    go_wp2_with fail
    refine cW.mono ?_
    rintro e w1 ⟨rfl, hb1⟩
    obtain ⟨q0, q1, q2, q3⟩ := row4 ((hb1.block _ (heap_lt hy0.out)).trans hy0.out)
    have HB1 : Hid (Below w.heap.size w w1) := HB0.out.trans (hb1.mono HB0.out.size)
    clear hb1 cW hy0 HB0
    go_wp2_with fail
    refine (C.out w1 HB1.out).mono ?_
    rintro e w2 ⟨rfl, hb2⟩
    have HB2 : Hid (Below w.heap.size w w2) := HB1.out.trans (hb2.mono HB1.out.size)
    clear hb2 q0 q1 q2 q3
    go_wp2
    go_ret
    exact ⟨by rw [par_str]; rfl, HB2.out⟩
  | false =>
    rw [hb] at cW
    clear hb
    go_enter Tryz.func34, Tryz.ntmps34
    go_wp2_with fail
    refine cW.mono ?_
    rintro e w1 ⟨rfl, hb1⟩
    obtain ⟨q0, q1, q2, q3⟩ := row4 ((hb1.block _ (heap_lt hy0.out)).trans hy0.out)
    have HB1 : Hid (Below w.heap.size w w1) := HB0.out.trans (hb1.mono HB0.out.size)
    clear hb1 cW hy0 HB0
    go_wp2_with fail
    refine (C.out w1 HB1.out).mono ?_
    rintro e w2 ⟨rfl, hb2⟩
    have HB2 : Hid (Below w.heap.size w w2) := HB1.out.trans (hb2.mono HB1.out.size)
    clear hb2 q0 q1 q2 q3
    go_wp2
    go_ret
    exact ⟨rfl, HB2.out⟩
end Go.Proofs.YtebpapmnkbehnaaGreatDoor
