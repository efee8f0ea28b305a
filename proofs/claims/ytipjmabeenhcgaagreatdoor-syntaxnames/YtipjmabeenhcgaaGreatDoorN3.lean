/- What the reader's model answers of SyntaxNames' three texts: for every word of small letters, reserved or not, and every digit. -/
import Derived.Test.YtipjmabeenhcgaaGreatDoorN2
set_option linter.unusedVariables false
set_option linter.unusedSimpArgs false
namespace Go.Proofs.YtipjmabeenhcgaaGreatDoor
open Go.RowKit Go.Joins Go.Lib

/-- All the reserved words. -/
def allR : List (List UInt8) := rsv ++ nm8
theorem resv_mem {s : List UInt8} (h : resv s = true) : s ∈ allR := by
  unfold resv at h
  unfold allR
  rw [Bool.or_eq_true] at h
  rcases h with h | h
  · exact List.mem_append_left _ (List.contains_iff_mem.1 h)
  · refine List.mem_append_right _ ?_
    unfold fldB fieldOf at h
    rw [Option.isSome_iff_exists] at h
    obtain ⟨k, hk⟩ := h
    rw [List.findIdx?_eq_some_iff_getElem] at hk
    obtain ⟨h8, he, -⟩ := hk
    have : nm8[k] = s := by simpa using he
    rw [← this]; exact List.getElem_mem h8
/-- What is asked of a list of tokens. -/
def ansB (l : List Tk) (e : Nat) : Bool := !(progOf l).2.mid && decide (parseE (.ok l) = e) && shortB (progOf l).1
def badB (s : List UInt8) (n : Nat) : Bool := ansB (t1 s n) 10 && ansB (t2 s n) 10 && ansB (t3 s) 10
theorem bad_all : (allR.all fun s => (List.range 10).all fun n => badB s n) = true := by kernel_rfl
theorem bad_of {s : List UInt8} (h : resv s = true) {n : Nat} (hn : n < 10) : badB s n = true := by
  have h1 := List.all_eq_true.1 bad_all s (resv_mem h)
  exact List.all_eq_true.1 h1 n (List.mem_range.2 hn)
theorem ans_of {l : List Tk} {e : Nat} (h : ansB l e = true) : (progOf l).2.mid = false ∧ parseE (.ok l) = e ∧ PgShort (progOf l).1 := by
  unfold ansB at h
  simp only [Bool.and_eq_true, decide_eq_true_eq, Bool.not_eq_true'] at h
  exact ⟨h.1.1, h.1.2, short_of h.2⟩

theorem ans_is {l : List Tk} {e : Nat} {x : Pg × St} (h : progOf l = x) (hx : (!x.2.mid && decide ((if faultM x.2 = 0 then checkM x.1 else faultM x.2) = e) && shortB x.1) = true) : ansB l e = true := by
  subst h
  exact hx
theorem nameM_s {L : List Tk} {σ : St} {s : List UInt8} (ht : tokAt L σ = wd s) (hr : resv s = false) : nameM L σ = (s, σ.next) := by
  unfold nameM isName
  rw [ht]
  show (if (decide ((1 : Int) = 1) && !resv s) = true then (s, σ.next) else _) = _
  rw [hr]; rfl
theorem letM_s {L : List Tk} {σ : St} {s : List UInt8} (ht : tokAt L σ = wd s) (hr : resv s = false) {n : Nat} {σ' : St} (h1 : numberM L (needsM L [61] σ.next) = (n, σ')) {σ2 : St} (h2 : needsM L [46] σ' = σ2) :
    letM L σ = { σ2 with mis := σ2.mis || (look σ2.lets s).isSome, lets := (s, n) :: σ2.lets } := by
  unfold letM
  simp only [nameM_s ht hr, h1, h2]
theorem valueM_s {L : List Tk} {σ : St} {s : List UInt8} (ht : tokAt L σ = wd s) (hr : resv s = false) : valueM L σ = ((look σ.lets s).getD 0, σ.next.misd (look σ.lets s).isNone) := by
  unfold valueM
  rw [show isNum L σ = false by unfold isNum; rw [ht]; rfl]
  simp only [nameM_s ht hr]
  rfl
theorem lets_one {L : List Tk} {k : Nat} {σ : St} (h : isNext L [108, 101, 116] σ = true) : letsM L (k + 1) σ = letsM L k (letM L σ.next) := by
  rw [letsM, if_pos h]
theorem lets_end {L : List Tk} {k : Nat} {σ : St} (h : isNext L [108, 101, 116] σ = false) : letsM L k σ = σ := by
  cases k with
  | zero => rfl
  | succ k => rw [letsM, if_neg (by rw [h]; decide)]
theorem list_one {L : List Tk} {sign : List UInt8} {op : Int} {g : St → Pl × St} {σ σ' : St} {p : Pl} (h : g σ = (p, σ')) (hn : isNext L sign σ' = false) : listM L sign op g σ = (p, σ') := by
  have hm : ∀ k, manyM L sign g k [p] σ' = ([p], σ') := by
    intro k
    cases k with
    | zero => rfl
    | succ k => rw [manyM, if_neg (by rw [hn]; decide)]
  unfold listM
  rw [h]
  simp only [hm]
  rfl
theorem sum_one {L : List Tk} {k : Nat} {σ σ' : St} {p : Pl} (hu : isNext L [33] σ = false) (h : atomM L (sumM L k) σ = (p, σ')) (h1 : isNext L [59] σ' = false) (h2 : isNext L [43] σ' = false) : sumM L (k + 1) σ = (p, σ') := by
  rw [sumM]
  refine list_one ?_ h2
  unfold seqM
  refine list_one ?_ h1
  rw [unaryM, if_neg (by rw [hu]; decide)]
  exact h
/-- A test of a field. -/
theorem atom_test {L : List Tk} {S : St → Pl × St} {σ : St} {f : Int} {σ1 σ2 : St} {v : Nat × St} (ha : isNext L [105, 100] σ = false) (hb : isNext L [100, 114, 111, 112] σ = false) (hc : isNext L [40] σ = false) (hd : isNext L [64] σ = false)
    (hf : fieldM L σ = (f, σ1)) (he : isNext L [58, 61] σ1 = false) (hn : needsM L [61] σ1 = σ2) (hv : valueM L σ2 = v) : atomM L S σ = (.mk 2 f v.1 [], v.2) := by
  unfold atomM
  rw [if_neg (by rw [ha]; decide), if_neg (by rw [hb]; decide), if_neg (by rw [hc]; decide), if_neg (by rw [hd]; decide), hf]
  dsimp only
  rw [if_neg (by rw [he]; decide), hn, hv]

def L1 (s : List UInt8) (n : Nat) : List Tk := t1 s n ++ [tkEnd]
def L2 (s : List UInt8) (n : Nat) : List Tk := t2 s n ++ [tkEnd]
def L3 (s : List UInt8) : List Tk := t3 s ++ [tkEnd]

theorem prog1 {s : List UInt8} (hr : resv s = false) (n : Nat) : progOf (t1 s n) = (⟨[0], .mk 2 3 n [], []⟩, ⟨13, [(s, n)], false, false, false, false⟩) := by
  have hA : startM (L1 s n) st0 = ([0], ⟨3, [], false, false, false, false⟩) := by kernel_rfl
  have hl : letM (L1 s n) ⟨4, [], false, false, false, false⟩ = ⟨8, [(s, n)], false, false, false, false⟩ := by
    rw [letM_s (s := s) (n := n) (σ' := ⟨7, [], false, false, false, false⟩) (σ2 := ⟨8, [], false, false, false, false⟩) (by kernel_rfl) hr (by kernel_rfl) (by kernel_rfl)]; rfl
  have hB : letsM (L1 s n) (13 + 1) ⟨3, [], false, false, false, false⟩ = ⟨8, [(s, n)], false, false, false, false⟩ := by
    rw [lets_one (by kernel_rfl)]
    show letsM (L1 s n) 13 (letM (L1 s n) ⟨4, [], false, false, false, false⟩) = _
    rw [hl]
    exact lets_end (by kernel_rfl)
  have hV : valueM (L1 s n) ⟨11, [(s, n)], false, false, false, false⟩ = (n, ⟨12, [(s, n)], false, false, false, false⟩) := by
    rw [valueM_s (s := s) (by kernel_rfl) hr]
    have : look [(s, n)] s = some n := by rw [look, if_pos rfl]
    dsimp only
    rw [this]; rfl
  have hC : sumM (L1 s n) (14 + 1) ⟨9, [(s, n)], false, false, false, false⟩ = (.mk 2 3 n [], ⟨12, [(s, n)], false, false, false, false⟩) :=
    sum_one (by kernel_rfl) (atom_test (f := 3) (σ1 := ⟨10, [(s, n)], false, false, false, false⟩) (by kernel_rfl) (by kernel_rfl) (by kernel_rfl) (by kernel_rfl) (by kernel_rfl) (by kernel_rfl) (by kernel_rfl) hV) (by kernel_rfl) (by kernel_rfl)
  show programM (L1 s n) st0 = _
  unfold programM
  simp only [hA]
  rw [show (L1 s n).length = 13 + 1 from rfl, hB, show needsM (L1 s n) [112, 111, 108, 105, 99, 121] ⟨8, [(s, n)], false, false, false, false⟩ = ⟨9, [(s, n)], false, false, false, false⟩ by kernel_rfl, hC]
  kernel_rfl
theorem ans1 {s : List UInt8} (hr : resv s = false) (n : Nat) : ansB (t1 s n) 0 = true := by
  exact ans_is (prog1 hr n) (by kernel_rfl)
theorem prog2 {s : List UInt8} (hr : resv s = false) (n : Nat) : progOf (t2 s n) = (⟨[0], .mk 1 0 0 [], []⟩, ⟨16, [(s, n), (s, n)], false, true, false, false⟩) := by
  have hA : startM (L2 s n) st0 = ([0], ⟨3, [], false, false, false, false⟩) := by kernel_rfl
  have hl : letM (L2 s n) ⟨4, [], false, false, false, false⟩ = ⟨8, [(s, n)], false, false, false, false⟩ := by
    rw [letM_s (s := s) (n := n) (σ' := ⟨7, [], false, false, false, false⟩) (σ2 := ⟨8, [], false, false, false, false⟩) (by kernel_rfl) hr (by kernel_rfl) (by kernel_rfl)]; rfl
  have hl2 : letM (L2 s n) ⟨9, [(s, n)], false, false, false, false⟩ = ⟨13, [(s, n), (s, n)], false, true, false, false⟩ := by
    rw [letM_s (s := s) (n := n) (σ' := ⟨12, [(s, n)], false, false, false, false⟩) (σ2 := ⟨13, [(s, n)], false, false, false, false⟩) (by kernel_rfl) hr (by kernel_rfl) (by kernel_rfl)]
    have : look [(s, n)] s = some n := by rw [look, if_pos rfl]
    dsimp only
    rw [this]; rfl
  have hB : letsM (L2 s n) (16 + 1) ⟨3, [], false, false, false, false⟩ = ⟨13, [(s, n), (s, n)], false, true, false, false⟩ := by
    rw [lets_one (by kernel_rfl)]
    show letsM (L2 s n) (15 + 1) (letM (L2 s n) ⟨4, [], false, false, false, false⟩) = _
    rw [hl, lets_one (by kernel_rfl)]
    show letsM (L2 s n) 15 (letM (L2 s n) ⟨9, [(s, n)], false, false, false, false⟩) = _
    rw [hl2]
    exact lets_end (by kernel_rfl)
  show programM (L2 s n) st0 = _
  unfold programM
  simp only [hA]
  rw [show (L2 s n).length = 16 + 1 from rfl, hB]
  kernel_rfl
theorem ans2 {s : List UInt8} (hr : resv s = false) (n : Nat) : ansB (t2 s n) 12 = true := by
  exact ans_is (prog2 hr n) (by kernel_rfl)
theorem prog3 {s : List UInt8} (hr : resv s = false) : progOf (t3 s) = (⟨[0], .mk 2 3 0 [], []⟩, ⟨8, [], false, true, false, false⟩) := by
  have hA : startM (L3 s) st0 = ([0], ⟨3, [], false, false, false, false⟩) := by kernel_rfl
  have hB : letsM (L3 s) (8 + 1) ⟨3, [], false, false, false, false⟩ = ⟨3, [], false, false, false, false⟩ := lets_end (by kernel_rfl)
  have hV : valueM (L3 s) ⟨6, [], false, false, false, false⟩ = (0, ⟨7, [], false, true, false, false⟩) := by
    rw [valueM_s (s := s) (by kernel_rfl) hr]; rfl
  have hC : sumM (L3 s) (9 + 1) ⟨4, [], false, false, false, false⟩ = (.mk 2 3 0 [], ⟨7, [], false, true, false, false⟩) :=
    sum_one (by kernel_rfl) (atom_test (f := 3) (σ1 := ⟨5, [], false, false, false, false⟩) (by kernel_rfl) (by kernel_rfl) (by kernel_rfl) (by kernel_rfl) (by kernel_rfl) (by kernel_rfl) (by kernel_rfl) hV) (by kernel_rfl) (by kernel_rfl)
  show programM (L3 s) st0 = _
  unfold programM
  simp only [hA]
  rw [show (L3 s).length = 8 + 1 from rfl, hB, show needsM (L3 s) [112, 111, 108, 105, 99, 121] ⟨3, [], false, false, false, false⟩ = ⟨4, [], false, false, false, false⟩ by kernel_rfl, hC]
  kernel_rfl
theorem ans3 {s : List UInt8} (hr : resv s = false) : ansB (t3 s) 12 = true := by
  exact ans_is (prog3 hr) (by kernel_rfl)
end Go.Proofs.YtipjmabeenhcgaaGreatDoor
