/- What the document's Decode answers, of any bytes of up to 1000; what Decode of Encode is; that a frame is equal to itself; no other conditions. -/
import Derived.Test.YtaplnbofglljdaaB4
import Derived.ChangeKeysEq
set_option linter.unusedVariables false
set_option linter.unusedSimpArgs false
namespace Go.Proofs.Ytaplnbofglljdaa
open Go.RowKit Go.Joins

set_option maxRecDepth 100000 in
set_option maxHeartbeats 1000000 in
theorem rdecode_other (s : ByteArray) (w : World) (hs : s.size ≤ 1000) (h16 : s.size ≠ 16) (h26 : s.size ≠ 26) :
    Calls Try.prog 13 #[.string s] w fun e w' => e = .returned (.tuple #[zeroFr.v, .bool false]) ∧ Below w.heap.size w w' := by
  have d16 : ((s.size : Int) != 16) = true := by simp; omega
  have d26 : ((s.size : Int) != 26) = true := by simp; omega
  go_enter Try.func13, Try.ntmps13
  go_wp2_with fail
  refine bodyPost_ret (v := .tuple #[zeroFr.v, .bool false]) (by simp [results, Try.results13, go_sem, zeroFr]) rfl ⟨rfl, ?_⟩
  exact below_alloc2 _ _ _
theorem isF_not {l : List UInt8} (h16 : l.length ≠ 16) (h26 : l.length ≠ 26) : isF l = false := by
  cases h : isF l
  · rfl
  · rcases len_16_26 (isF_shape h) with ⟨_, h⟩ | ⟨_, h⟩ <;> omega
theorem rdecode_any (l : List UInt8) (w : World) (hl : l.length ≤ 1000) (F : Bool) (V : Value) (hF : isF l = F) (hV : (if F then rdOf (tgOf l) l else zeroFr).v = V) :
    Calls Try.prog 13 #[.string ⟨l.toArray⟩] w fun e w' => e = .returned (.tuple #[V, .bool F]) ∧ Below w.heap.size w w' := by
  have hsz := size_mk l
  by_cases h16 : l.length = 16
  · have ht : tgOf l = false := by simp [tgOf, h16]
    rw [ht] at hV
    exact rdecode_bare ⟨l.toArray⟩ w (by rw [hsz]; exact h16) F V (by simpa using hF) (by simpa using hV)
  · by_cases h26 : l.length = 26
    · have ht : tgOf l = true := by simp [tgOf, h26]
      rw [ht] at hV
      exact rdecode_tagged ⟨l.toArray⟩ w (by rw [hsz]; exact h26) F V (by simpa using hF) (by simpa using hV)
    · have hn := isF_not h16 h26
      rw [hn] at hF
      subst hF
      subst hV
      exact rdecode_other ⟨l.toArray⟩ w (by rw [hsz]; exact hl) (by rw [hsz]; exact h16) (by rw [hsz]; exact h26)
/-- Decode of a frame's bytes. -/
theorem decode_enc (f : Fr) (h : f.ok) (w : World) :
    Calls Try.prog 8 #[.string ⟨(encOf f).toArray⟩] w fun e w' => e = .returned (.tuple #[(cleanOf f).v, .int .i64 0]) ∧ Below w.heap.size w w' := by
  have hl := encOf_length f
  have := decode_any (encOf f) w (by rw [hl]; unfold bodyLen; split <;> omega)
  rw [isF_enc, tgOf_enc] at this
  simp only [if_true, rd_enc f h] at this
  exact this
/-- Decode of bytes that are no frame's. -/
theorem decode_none (l : List UInt8) (h : isF l = false) (hl : l.length ≤ 1000) (w : World) :
    Calls Try.prog 8 #[.string ⟨l.toArray⟩] w fun e w' => e = .returned (.tuple #[zeroFr.v, .int .i64 30]) ∧ Below w.heap.size w w' := by
  have := decode_any l w hl
  rw [h] at this
  exact this

theorem cells22 : Try.prog.cellsOf 22 = 1 := by kernel_rfl
theorem info22 : ∃ i, Try.prog.info? 22 = some i := by
  have h : (Try.prog.info? 22).isSome = true := by kernel_rfl
  exact Option.isSome_iff_exists.1 h
set_option maxRecDepth 100000 in
theorem eql8 (a0 a1 a2 a3 a4 a5 a6 a7 : Nat) (d : Nat) (w : World) :
    (Op.equalIn (d + 2) 24 (pkv a0 a1 a2 a3 a4 a5 a6 a7) (pkv a0 a1 a2 a3 a4 a5 a6 a7)).run Try.prog w = .ok true w := by
  obtain ⟨i, hi⟩ := info22
  unfold pkv
  rw [run_equalIn_array w (d + 1) _ _ Try.underlying24 hi, cells22]
  rw [show List.range 8 = [0, 1, 2, 3, 4, 5, 6, 7] from rfl]
  simp only [Op.eqItems, Sem.run_bind]
  simp [part, go_sem, Try.underlying22]
set_option maxRecDepth 100000 in
theorem eql11 (a0 a1 a2 a3 a4 a5 a6 a7 : Nat) (tg : Bool) (tag dg : Nat) (w : World) :
    (Op.equalIn 10000 28 (frv a0 a1 a2 a3 a4 a5 a6 a7 tg tag dg) (frv a0 a1 a2 a3 a4 a5 a6 a7 tg tag dg)).run Try.prog w = .ok true w := by
  have h8 := eql8 a0 a1 a2 a3 a4 a5 a6 a7 9997 w
  unfold pkv at h8
  unfold frv frc
  rw [show (10000 : Nat) = 9999 + 1 from rfl]
  rw [run_equalIn_struct w 9999 28 _ _ (by kernel_rfl) (by kernel_rfl)]
  simp only [Program.fieldsOf, Try.underlying28]
  rw [show (9999 : Nat) = 9998 + 1 from rfl]
  simp [Op.eqFields, Sem.run_bind, part, go_sem, Try.underlying4, Try.underlying22, Try.underlying26]
  rw [h8]
  simp
end Go.Proofs.Ytaplnbofglljdaa
