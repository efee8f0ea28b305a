/- A row of a book, sorted, and each number once; no conditions but the row's length. -/
import Derived.Test.YtipiepcbgjceaaaOE
set_option linter.unusedVariables false
set_option linter.unusedSimpArgs false
namespace Go.Proofs.Ytipiepcbgjceaaa
open Go.RowKit Go.Joins Go.Maps

theorem Sd_row {w : World} {b : Nat} {d0 d : Array Int} {wr : World} (h : Sd w b 0 d0 d wr) {cur : Array Value} {t : TypeId} {fz : Nat × Nat} (hr : w.heap[b]? = some (.cells cur t fz)) :
    wr.heap[b]? = some (.cells (Go.Sort.putCells (Value.int .u16) 0 d cur) t fz) := by
  obtain ⟨n, os, rfl⟩ := h.eqn
  rw [Go.Sort.heap_grow_old _ _ (by simpa using h.lt)]
  have hr' : (Go.Sort.ahead w n).heap[b]? = some (.cells cur t fz) := hr
  simp only [Go.Sort.putRow, Go.Sort.mapBlock, Array.getElem?_modify, if_true, hr', Option.map_some, Go.Sort.onCells]
theorem put_take (d : Array Int) (cur : Array Value) (n : Nat) (hn : n ≤ d.size) (hc : d.size ≤ cur.size) : (Go.Sort.putCells (Value.int .u16) 0 d cur).toList.take n = (d.toList.take n).map (Value.int .u16) := by
  apply List.ext_getElem?
  intro i
  rw [List.getElem?_take, List.getElem?_map, List.getElem?_take]
  by_cases hi : i < n
  · rw [if_pos hi, if_pos hi, Array.getElem?_toList, Array.getElem?_toList]
    simp only [Go.Sort.putCells, Array.getElem?_mapIdx]
    rw [Array.getElem?_eq_getElem (show i < cur.size by omega), Array.getElem?_eq_getElem (show i < d.size by omega)]
    simp only [Option.map_some, Nat.zero_le, true_and, Nat.sub_zero]
    rw [if_pos (by omega), getElem!_pos d i (by omega)]
  · rw [if_neg hi, if_neg hi]; rfl
theorem grownBy_refl (w : World) (row : Option Nat) : w.grownBy w row := ⟨rfl, rfl, rfl, Nat.le_refl _, fun _ _ _ => rfl⟩
theorem grownBy_trans {a b c : World} {row : Option Nat} (h : a.grownBy b row) (k : b.grownBy c row) : a.grownBy c row :=
  ⟨k.os.trans h.os, k.tape.trans h.tape, k.output.trans h.output, Nat.le_trans h.size k.size, fun i hi hne => (k.block i (Nat.lt_of_lt_of_le hi h.size) hne).trans (h.block i hi hne)⟩
theorem Sd_grown {w : World} {b off : Nat} {d0 d : Array Int} {wr : World} (h : Sd w b off d0 d wr) : w.grownBy wr (some b) :=
  ⟨h.mem.1, h.mem.2.1, h.mem.2.2.1, h.mem.2.2.2, fun k hk hne => h.other hk (fun e => hne (by rw [e]))⟩
/-- An own row that isn't nil: its cells. -/
theorem own_holds {w : World} {lo n g cap : Nat} {cur : Array Value} {xs : List Int} (hg : w.heap[g]? = some (.cells cur 24 (0, 0))) (ht : cur.toList.take (n * 1) = xs.map (Value.int .u16)) (hl : xs.length = n) : Go.Sort.Holds (Value.int .u16) w g 0 xs.toArray := fun j hj => by
  have hj' : j < xs.length := by simpa using hj
  refine ⟨?_, frozen_of_row _ _ _ _ _ hg⟩
  rw [cell_of_row _ _ _ _ _ _ hg]
  have h1 : (cur.toList.take (n * 1))[j]? = (xs.map (Value.int .u16))[j]? := by rw [ht]
  rw [List.getElem?_take_of_lt (by omega), Array.getElem?_toList, List.getElem?_map, List.getElem?_eq_getElem hj'] at h1
  rw [Nat.zero_add, h1, getElem!_pos _ j (by simpa using hj')]
  simp
theorem sort_both (v : Value) (lo : Nat) (xs : List Int) (W : World) (hown : W.ownsRow lo 24 1 v xs.length (xs.map (Value.int .u16))) (hl : xs.length ≤ 5000) :
    Calls Try.prog 71 #[v] W fun e w' => e = .returned (.tuple #[]) ∧ ∃ ys : List Int, ys.length = xs.length ∧ ys.Perm xs ∧ (∀ i j (hi : i < ys.length) (hj : j < ys.length), i < j → ys[i] ≤ ys[j]) ∧ w'.ownsRow lo 24 1 v ys.length (ys.map (Value.int .u16)) ∧ W.grownBy w' v.ownBlock := by
  rcases hown.2 with ⟨rfl, hn⟩ | ⟨g, cap, cur, rfl, hlo, hg, hcap, hmax, hsz, htk⟩
  · obtain rfl : xs = [] := List.length_eq_zero_iff.1 hn
    refine (sort_none W).mono ?_
    rintro e w' ⟨rfl, rfl⟩
    exact ⟨rfl, [], rfl, List.Perm.refl _, fun i j hi => absurd hi (by simp), World.ownsRow_nil _ _ _ _, grownBy_refl _ _⟩
  · have hH := own_holds (lo := lo) (cap := cap) hg htk rfl
    refine (sort_any g 0 cap xs.length xs.toArray W hH (heap_lt hg) (by simp) (by omega)).mono ?_
    rintro e w' ⟨rfl, d', hp, hs, hS⟩
    have hds : d'.size = xs.length := by rw [hS.size]; simp
    refine ⟨rfl, d'.toList, by simpa using hds, ?_, fun i j hi hj hij => ?_, ?_, Sd_grown hS⟩
    · have := hp.2.2
      have e1 : d'.extract 0 xs.length = d' := by apply Array.ext'; simp [← hds]
      have e2 : xs.toArray.extract 0 xs.length = xs.toArray := by apply Array.ext'; simp
      rw [e1, e2] at this
      simpa using this
    · have hi' : i < d'.size := by simpa using hi
      have hj' : j < d'.size := by simpa using hj
      have := sorted_le (d := d') (by rw [hds]; exact hs) i j hij hj'
      rw [getElem!_pos d' i hi', getElem!_pos d' j hj'] at this
      simpa using this
    · refine ⟨by simp, .inr ⟨g, cap, _, by simp [hds], hlo, Sd_row hS hg, by simp; omega, hmax, by simp [Go.Sort.putCells, hsz], ?_⟩⟩
      rw [put_take d' cur _ (by simp) (by rw [hds]; omega), List.take_of_length_le (by simp)]
theorem comp_both (v : Value) (lo : Nat) (ys : List Int) (W : World) (hown : W.ownsRow lo 24 1 v ys.length (ys.map (Value.int .u16))) (hl : ys.length ≤ 5000) (hs : ∀ i j (hi : i < ys.length) (hj : j < ys.length), i < j → ys[i] ≤ ys[j]) (hb : ∀ y ∈ ys, 0 ≤ y ∧ y ≤ 65535) :
    Calls Try.prog 72 #[v] W fun e w' => ∃ (v' : Value) (nl : List Nat), e = .returned v' ∧ v'.oneCell' = true ∧ W.grownBy w' v.ownBlock ∧ NumV w' v' nl ∧ nl.Pairwise (· < ·) ∧ nl.length ≤ ys.length ∧ (∀ n ∈ nl, n ≤ 65535) ∧ (∀ n : Nat, n ∈ nl ↔ (n : Int) ∈ ys) ∧
      ∀ b o n c, v' = .slice (some ⟨b, o, none⟩) n c → v.ownBlock = some b := by
  rcases hown.2 with ⟨rfl, hn⟩ | ⟨g, cap, cur, rfl, hlo, hg, hcap, hmax, hsz, htk⟩
  · obtain rfl : ys = [] := List.length_eq_zero_iff.1 hn
    refine (compact_nil W).mono ?_
    rintro e w' ⟨rfl, rfl⟩
    exact ⟨_, [], rfl, rfl, grownBy_refl _ _, ⟨none, 0, rfl, fun k hk => absurd hk (Nat.not_lt_zero _)⟩, List.Pairwise.nil, Nat.le_refl _, fun n h => absurd h (by simp), fun n => by simp, fun b o n c e => by cases e⟩
  · have hH := own_holds (lo := lo) (cap := cap) hg htk rfl
    have hget : ∀ i (hi : i < ys.length), ys.toArray[i]! = ys[i] := fun i hi => by rw [getElem!_pos _ i (by simpa using hi)]; simp
    have hc := compact_any g 0 cap ys.toArray W hH (heap_lt hg) (by simp; omega) (by simpa using hcap) (fun i j hij hj => by
      have hj' : j < ys.length := by simpa using hj
      rw [hget i (by omega), hget j hj']
      exact hs i j (by omega) hj' hij)
    simp only [List.size_toArray] at hc
    refine hc.mono ?_
    rintro e w' ⟨l, d', rfl, hS, hll, hlk, hlp, hlm⟩
    have hmem : ∀ x, x ∈ l ↔ x ∈ ys := fun x => by
      rw [hlm x]
      constructor
      · rintro ⟨j, hj, e⟩
        rw [e, hget j hj]
        exact List.getElem_mem hj
      · intro h
        obtain ⟨j, hj, e⟩ := List.mem_iff_getElem.1 h
        exact ⟨j, hj, by rw [hget j hj, e]⟩
    have hlb : ∀ x ∈ l, 0 ≤ x ∧ x ≤ 65535 := fun x hx => hb x ((hmem x).1 hx)
    have hrow := Sd_row hS hg
    refine ⟨_, l.map Int.toNat, rfl, rfl, Sd_grown hS, ⟨some ⟨g, 0, none⟩, cap, by rw [List.length_map], fun k hk => ?_⟩, ?_, by simpa using hll, fun n hn => ?_, fun n => ?_, fun b o n c e => ?_⟩
    · have hk' : k < l.length := by simpa using hk
      refine ⟨g, 0, rfl, heap_lt hrow, ⟨_, _, hrow⟩, ?_⟩
      have h1 := (hS.holds k (by rw [hS.size]; simp; omega)).1
      rw [h1, hlk k hk']
      have := hlb _ (List.getElem_mem hk')
      rw [List.getElem_map, Int.toNat_of_nonneg this.1]
    · rw [List.pairwise_map]
      exact hlp.imp_of_mem fun {x y} hx hy h => by
        have := hlb x hx
        have := hlb y hy
        omega
    · obtain ⟨x, hx, rfl⟩ := List.mem_map.1 hn
      have := hlb x hx
      omega
    · rw [List.mem_map, ← hmem]
      constructor
      · rintro ⟨x, hx, rfl⟩
        rw [Int.toNat_of_nonneg (hlb x hx).1]
        exact hx
      · intro h
        exact ⟨_, h, by simp⟩
    · simp only [Value.slice.injEq, Option.some.injEq, Addr.mk.injEq] at e
      obtain ⟨⟨rfl, -⟩, -⟩ := e
      rfl
end Go.Proofs.Ytipiepcbgjceaaa
