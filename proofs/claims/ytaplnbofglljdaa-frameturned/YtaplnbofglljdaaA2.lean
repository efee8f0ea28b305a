/- What frame.appendNumber, the document's Two and Check do: bytes behind bytes; the check; slices of the call's own, of up to 1000 bytes. -/
import Derived.Test.YtaplnbofglljdaaA1
import Derived.Lib.SmallJoins
set_option linter.unusedVariables false
set_option linter.unusedSimpArgs false
namespace Go.Proofs.Ytaplnbofglljdaa
open Go.RowKit Go.Joins

/-- Bytes as cells. -/
def bs (l : List UInt8) : List Value := l.map fun b => Value.int .u8 (b.toNat : Int)
theorem bs_append (a b : List UInt8) : bs (a ++ b) = bs a ++ bs b := by simp [bs]
theorem bs_length (a : List UInt8) : (bs a).length = a.length := by simp [bs]
theorem info_parts {e : TypeId} {z : Value} {size bytes : Nat} (h : ∃ i, Try.prog.info? e = some i ∧ i.zero = some z ∧ i.size = size ∧ i.bytes = bytes) : ∃ i, Try.prog.info? e = some i ∧ i.zero = some z ∧ i.size = size ∧ i.bytes = bytes := h
theorem info5 : ∃ i, Try.prog.info? 5 = some i ∧ i.zero = some (.int .u8 0) ∧ i.size = 1 ∧ i.bytes = 1 := by
  have h : ((Try.prog.info? 5).map fun i => (i.zero, i.size, i.bytes)) = some (some (.int .u8 0), 1, 1) := by kernel_rfl
  obtain ⟨i, hi, h2⟩ := Option.map_eq_some_iff.1 h
  simp only [Prod.mk.injEq] at h2
  exact ⟨i, hi, h2.1, h2.2.1, h2.2.2⟩

theorem cell_one_new (w : World) (x : Value) (t : TypeId) : ∀ j u, [x][j]? = some u → (w.alloc (.cells #[x] t)).cell? ((⟨w.heap.size, 0, none⟩ : Addr).add j) = some u := by
  intro j u h
  have hj : j = 0 := by
    rcases Nat.eq_zero_or_pos j with h0 | h0
    · exact h0
    · rw [List.getElem?_eq_none (by simp; omega)] at h; cases h
  subst hj
  simp at h; subst h
  rw [Addr.add_lit, cell_of_row _ _ _ _ _ _ (heap_alloc_new w _)]; rfl
theorem byte_be (n j : Nat) : (n : Int) / 2 ^ (8 * j) % 256 = ((UInt8.ofNat (n / 256 ^ j)).toNat : Int) := by
  have e : (2 : Int) ^ (8 * j) = ((256 ^ j : Nat) : Int) := by rw [Int.pow_mul]; simp
  rw [e]; simp
set_option maxHeartbeats 400000 in
theorem append_any (base : Nat) (v : Value) (l : List UInt8) (n size : Nat) (w : World) (hown : w.ownsRow base 5 1 v l.length (bs l)) (hb : base ≤ w.heap.size) (hl : l.length ≤ 1000) (hs : size ≤ 8) :
    Calls Try.prog 15 #[v, .int .u64 n, .int .i64 size] w fun e w' => ∃ v', e = .returned v' ∧ w'.ownsRow base 5 1 v' (l.length + size) (bs (l ++ be size n)) ∧ base ≤ w'.heap.size ∧ Below base w w' := by
  obtain ⟨i0, hi, hz0, hz1, hz2⟩ := info5
  go_enter Try.func15, Try.ntmps15
  go_wp2_with fail
  go_loopw [0, 7] (fun v i wr => ∃ (k : Nat) (acc : List UInt8), k ≤ size ∧ i = .int .i64 ((k : Int) - 1) ∧ Hid (acc ++ be k n = be size n) ∧ wr.ownsRow base 5 1 v (l.length + acc.length) (bs (l ++ acc)) ∧ base ≤ wr.heap.size ∧ Below base w wr) (fun _ i _ => (intOf i + 1).toNat)
  case atStart => exact ⟨size, [], Nat.le_refl _, by go_num, by show _ = _; simp, by simpa using hown, hb, Below.refl _ _⟩
  case round =>
    obtain ⟨k, acc, hk, rfl, HA, hown', hb', hbw⟩ := hrel
    have hla : Hid (acc.length + k = size) := by
      have := congrArg List.length HA.out
      show _ = _
      simpa [be_length] using this
    cases k with
    | zero =>
      go_wp2_with fail
      go_ret
      have e : acc = be size n := by have := HA.out; simpa [be] using this
      have e2 : acc.length = size := hla.out
      subst e
      rw [e2] at hown'
      exact ⟨_, rfl, hown', hb', hbw⟩
    | succ j =>
      have hla2 := hla.out
      have hacc : acc.length ≤ 8 := by omega
      clear hla2
      go_wp2_with (at_builtin; refine wpList_append_own _ rfl _ _ 41 rfl base 5 i0 (.int .u8 0) 1 1 Try.underlying41 hi hz0 hz1 hz2 rfl (by decide) u0 _ _ rfl (hown'.alloc _) ⟨wr.heap.size, 0, none⟩ 1 1 [.int .u8 ((n : Int) / 2 ^ (8 * j) % 256)] rfl rfl (cell_one_new _ _ _) (fun x hx => by simp at hx; rcases hx with rfl; rfl) (by unfold maxLen; omega) (by omega) (by simp; omega) ?_; intro v' w3 hown3 hgrow3 hnil3)
      have hbw3 : Below base w w3 := Below.grown (hbw.alloc (by omega) _) hgrow3 (by simp; omega) (fun j hj => (hown'.lt _ hj).1)
      have hsz3 : base ≤ w3.heap.size := by have := hgrow3.size; simp at this; omega
      have hown4 : w3.ownsRow base 5 1 v' (l.length + (acc ++ [UInt8.ofNat (n / 256 ^ j)]).length) (bs (l ++ (acc ++ [UInt8.ofNat (n / 256 ^ j)]))) := by
        rw [byte_be] at hown3
        have e1 : l.length + (acc ++ [UInt8.ofNat (n / 256 ^ j)]).length = l.length + acc.length + 1 := by simp; omega
        have e2 : bs (l ++ (acc ++ [UInt8.ofNat (n / 256 ^ j)])) = bs (l ++ acc) ++ [.int .u8 ((UInt8.ofNat (n / 256 ^ j)).toNat : Int)] := by rw [← List.append_assoc, bs_append (l ++ acc)]; rfl
        rw [e1, e2]; exact hown3
      have HA2 : Hid ((acc ++ [UInt8.ofNat (n / 256 ^ j)]) ++ be j n = be size n) := by
        show _ = _
        rw [← HA.out, List.append_assoc]; rfl
      clear hown3 hgrow3 hnil3 HA hla
      go_wp2
      refine ⟨⟨j, _, by omega, by go_num, HA2, hown4, hsz3, hbw3⟩, by simp [intOf]⟩

theorem two_cells (n : Nat) (h : n < 65536) : #[Value.int .u8 ((n : Int) / 256), Value.int .u8 ((n : Int) % 256)] = (bs (be 2 n)).toArray := by
  have e1 : ((UInt8.ofNat (n / 256 ^ 1)).toNat : Int) = (n : Int) / 256 := by simp; omega
  have e2 : ((UInt8.ofNat (n / 256 ^ 0)).toNat : Int) = (n : Int) % 256 := by simp
  simp only [bs, be, List.map_cons, List.map_nil, e1, e2]
set_option maxHeartbeats 400000 in
theorem rtwo_any (n : Nat) (w : World) (hn : n < 65536) :
    Calls Try.prog 19 #[.int .u16 n] w fun e w' => e = .returned (.slice (some ⟨w.heap.size, 0, none⟩) 2 2) ∧ w' = w.alloc (.cells (bs (be 2 n)).toArray 5) := by
  go_enter Try.func19, Try.ntmps19
  go_wp2
  go_ret
  exact ⟨rfl, by rw [two_cells n hn]⟩

theorem radd_byte (s k c : Nat) (hs : s < 65521) (hk : k ≤ 1000) (hc : c < 256) :
    ((wrap64 ((s : Int) + wrap64 (((k : Int) + 1) * wrap64 (c : Int)))).tmod 65521) = (((s + (k + 1) * c) % 65521 : Nat) : Int) := by
  have e1 : wrap64 (c : Int) = (c : Int) := by simp only [wrap64]; omega
  rw [e1]
  have e2 : ((k : Int) + 1) * (c : Int) = (((k + 1) * c : Nat) : Int) := by simp
  have hb : (k + 1) * c ≤ 1001 * 255 := Nat.mul_le_mul (by omega) (by omega)
  rw [e2]
  generalize (k + 1) * c = z at *
  have e3 : wrap64 (z : Int) = (z : Int) := by simp only [wrap64]; omega
  rw [e3]
  have e4 : wrap64 ((s : Int) + (z : Int)) = ((s + z : Nat) : Int) := by simp only [wrap64]; omega
  rw [e4]
  simp [Int.tmod]
theorem chk_snoc (l : List UInt8) (k : Nat) (h : k < l.length) : chk (l.take (k + 1)) = (chk (l.take k) + (k + 1) * l[k].toNat) % 65521 := by
  unfold chk
  rw [List.take_succ_eq_append_getElem h, ws_snoc, List.length_take, Nat.min_eq_left (by omega)]
  simp
set_option maxHeartbeats 400000 in
theorem rcheck_any (base : Nat) (v : Value) (l : List UInt8) (w : World) (hown : w.ownsRow base 5 1 v l.length (bs l)) (hl : l.length ≤ 1000) :
    Calls Try.prog 20 #[v] w fun e w' => e = .returned (.int .u16 (chk l)) ∧ w' = w := by
  have hcell : ∀ k (h : k < l.length), ∃ g cap, v = .slice (some ⟨g, 0, none⟩) l.length cap ∧ w.cell? ⟨g, k, none⟩ = some (.int .u8 l[k].toNat) := by
    intro k h
    rcases hown.2 with ⟨rfl, h0⟩ | ⟨g, cap, cur, rfl, _⟩
    · omega
    · refine ⟨g, cap, rfl, ?_⟩
      rw [hown.cellAt k (by omega)]
      simp [bs, h]
  obtain ⟨sa, cap, rfl⟩ : ∃ sa cap, v = .slice sa l.length cap := by
    rcases hown.2 with ⟨rfl, h0⟩ | ⟨g, cap, cur, rfl, _⟩
    · exact ⟨none, 0, by rw [h0]⟩
    · exact ⟨_, cap, rfl⟩
  clear hown
  go_enter Try.func20, Try.ntmps20
  go_wp2
  go_loop [3, 4] (fun n i => ∃ k : Nat, k ≤ l.length ∧ i = .int .i64 k ∧ n = .int .i64 (chk (l.take k))) (fun _ i => l.length - (intOf i).toNat)
  case atStart => exact ⟨0, Nat.zero_le _, rfl, rfl⟩
  case round =>
    obtain ⟨k, hk, rfl, rfl⟩ := hrel
    have hb := chk_lt (l.take k)
    by_cases hlt : k < l.length
    · obtain ⟨g, c, e, hc⟩ := hcell k hlt
      injection e with e1 _ e2
      subst e1 e2
      clear hcell
      go_wp2
      refine ⟨⟨k + 1, by omega, by go_num, ?_⟩, by simp [intOf]; omega⟩
      rw [radd_byte _ _ _ hb (by omega) l[k].toNat_lt, chk_snoc l k hlt]
    · clear hcell
      go_wp2
      go_ret
      exact ⟨ret_int (by rw [List.take_of_length_le (by omega)]), rfl⟩
end Go.Proofs.Ytaplnbofglljdaa
