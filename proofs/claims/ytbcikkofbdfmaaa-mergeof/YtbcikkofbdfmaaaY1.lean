/- Lists of rows in memory; the first that is the same, and how many rows: pointsmanref10.find, Rows; any lists. -/
import Derived.Test.YtbcikkofbdfmaaaXE
import Derived.Test.YtbcikkofbdfmaaaXF
set_option linter.unusedVariables false
set_option linter.unusedSimpArgs false
namespace Go.Proofs.Ytbcikkofbdfmaaa
open Go.RowKit Go.Joins Go.Sort

abbrev Lst := List Rx
/-- Lists lie behind a slice. -/
def ListsAt (w : World) (v : Value) (T : List Lst) : Prop :=
  ∃ sa sc, v = .slice sa T.length sc ∧ T.length ≤ 9223372036854775807 ∧ ∀ k (hk : k < T.length), ∃ b off, sa = some ⟨b, off, none⟩ ∧ b < w.heap.size ∧ ∃ u, w.cell? ⟨b, off + k, none⟩ = some u ∧ RowsAt w u T[k]
theorem ListsAt.below {w w' : World} {v : Value} {T : List Lst} (h : ListsAt w v T) (hb : Below w.heap.size w w') : ListsAt w' v T := by
  obtain ⟨sa, sc, e, hl, hc⟩ := h
  refine ⟨sa, sc, e, hl, fun k hk => ?_⟩
  obtain ⟨b, off, e1, h1, u, h2, h3⟩ := hc k hk
  exact ⟨b, off, e1, Nat.lt_of_lt_of_le h1 hb.size, u, (hb.cell (p := ⟨b, off + k, none⟩) h1).trans h2, h3.below hb⟩
theorem RowsAt.form {w : World} {v : Value} {L : Lst} (h : RowsAt w v L) : ∃ sa sc, v = .slice sa L.length sc ∧ L.length ≤ 9223372036854775807 := by
  obtain ⟨sa, sc, e, hl, -⟩ := h
  exact ⟨sa, sc, e, hl⟩
def findM (T : List Lst) (x : Lst) : Option Nat := T.findIdx? fun y => sameB y x
def findI (T : List Lst) (x : Lst) : Int := match findM T x with | some k => (k : Int) | none => -1
theorem findM_hit {T : List Lst} {x : Lst} {k : Nat} (h : k < T.length) (hn : ∀ j (hj : j < k), sameB (T[j]'(by omega)) x = false) (hk : sameB T[k] x = true) : findM T x = some k := by
  unfold findM
  rw [List.findIdx?_eq_some_iff_getElem]
  exact ⟨h, hk, fun j hj => by rw [hn j hj]; simp⟩
theorem findM_miss {T : List Lst} {x : Lst} (hn : ∀ j (hj : j < T.length), sameB T[j] x = false) : findM T x = none := by
  unfold findM
  rw [List.findIdx?_eq_none_iff]
  intro r hr
  obtain ⟨j, hj, rfl⟩ := List.getElem_of_mem hr
  exact hn j hj
def rowsM : List Lst → Nat
  | [] => 0
  | x :: T => x.length + rowsM T
theorem rowsM_snoc : ∀ (T : List Lst) (x : Lst), rowsM (T ++ [x]) = rowsM T + x.length
  | [], x => by simp [rowsM]
  | y :: T, x => by rw [List.cons_append, rowsM, rowsM_snoc T, rowsM]; omega
theorem rowsM_take (T : List Lst) (k : Nat) (h : k < T.length) : rowsM (T.take (k + 1)) = rowsM (T.take k) + T[k].length := by rw [List.take_succ_eq_append_getElem h, rowsM_snoc]

set_option maxRecDepth 100000 in
set_option maxHeartbeats 4000000 in
theorem find_any (v x : Value) (T : List Lst) (X : Lst) (w : World) (h : ListsAt w v T) (hx : RowsAt w x X) : Calls Try.prog 24 #[v, x] w fun e w' => e = .returned (.int .i64 (findI T X)) ∧ Below w.heap.size w w' := by
  obtain ⟨sa, sc, rfl, hl, hc⟩ := h
  have HC := hid hc
  have HX := hid hx
  obtain ⟨R, hR⟩ : ∃ R, T.length = R := ⟨_, rfl⟩
  have HR := hid hR
  rw [hR] at hl ⊢
  clear hc hR
  obtain ⟨xa, xc, rfl, -⟩ := hx
  generalize hxn : X.length = xn at *
  clear hxn
  go_enter Try.func24, Try.ntmps24
  go_wp2
  go_loopw [5] (fun i wr => ∃ (k : Nat), k ≤ R ∧ i = .int .i64 (k : Int) ∧ Hid (∀ j (h : j < T.length), j < k → sameB T[j] X = false) ∧ Hid (Below w.heap.size w wr)) (fun i _ => R - (intOf i).toNat)
  case atStart => exact ⟨0, Nat.zero_le _, rfl, fun j h hj => absurd hj (by omega), Below.refl _ _⟩
  case round =>
    obtain ⟨k, hk, rfl, HN, HB⟩ := hrel
    by_cases hlt : k < R
    · have hlt' : k < T.length := by rw [HR.out]; exact hlt
      have dk : decide ((k : Int) < (R : Int)) = true := by simp; omega
      have hk1 : (k : Int) < (R : Int) := by omega
      obtain ⟨b, off, rfl, hb, u, hu, hp⟩ := HC.out k hlt'
      have hu2 := (HB.out.cell (p := ⟨b, off + k, none⟩) hb).trans hu
      have cS := hid (rsame_any u (.slice xa xn xc) T[k] X wr (hp.below HB.out) (HX.out.below HB.out))
      have HHIT : Hid (sameB T[k] X = true → findM T X = some k) := fun e => findM_hit hlt' (fun j hj => HN.out j (by omega) hj) e
      have HN2 : Hid (sameB T[k] X = false → ∀ j (h : j < T.length), j < k + 1 → sameB T[j] X = false) := fun e j h hj => by
        by_cases e2 : j = k
        · subst e2; exact e
        · exact HN.out j h (by omega)
      clear hu hp
      cases hq : sameB T[k] X with
      | true =>
        have HE : Hid (findI T X = (k : Int)) := by show _ = _; unfold findI; rw [HHIT.out hq]
        rw [hq] at cS
        clear hq
        go_wp2_with fail
        refine cS.out.mono ?_
        rintro e w2 ⟨rfl, hb2⟩
        have HB2 := hid (HB.out.trans (hb2.mono HB.out.size))
        clear hb2 cS
        go_wp2
        go_ret
        exact ⟨by rw [HE.out]; rfl, HB2.out⟩
      | false =>
        have HN3 := hid (HN2.out hq)
        rw [hq] at cS
        clear hq
        go_wp2_with fail
        refine cS.out.mono ?_
        rintro e w2 ⟨rfl, hb2⟩
        have HB2 := hid (HB.out.trans (hb2.mono HB.out.size))
        clear hb2 cS
        go_wp2
        go_roundw
        case rel => exact ⟨k + 1, by omega, by go_num, HN3, HB2⟩
        case measure => simp [intOf]; omega
    · obtain rfl : k = R := by omega
      have dk : decide ((k : Int) < (k : Int)) = false := by simp
      have HE : Hid (findI T X = -1) := by show _ = _; unfold findI; rw [findM_miss fun j hj => HN.out j hj (by have h9 := HR.out; omega)]
      go_wp2
      go_ret
      exact ⟨by rw [HE.out]; rfl, HB.out⟩
set_option maxRecDepth 100000 in
set_option maxHeartbeats 4000000 in
theorem rrowsN_any (v : Value) (T : List Lst) (w : World) (h : ListsAt w v T) (hs : ∀ k, rowsM (T.take k) ≤ 9223372036854775807) : Calls Try.prog 16 #[v] w fun e w' => e = .returned (.int .i64 (rowsM T : Int)) ∧ Below w.heap.size w w' := by
  obtain ⟨sa, sc, rfl, hl, hc⟩ := h
  have HC := hid hc
  have HS := hid hs
  obtain ⟨R, hR⟩ : ∃ R, T.length = R := ⟨_, rfl⟩
  have HR := hid hR
  rw [hR] at hl ⊢
  clear hc hR hs
  go_enter Try.func16, Try.ntmps16
  go_wp2
  go_loopw [3, 4] (fun s i wr => ∃ (k S : Nat), k ≤ R ∧ i = .int .i64 (k : Int) ∧ s = .int .i64 (S : Int) ∧ Hid (rowsM (T.take k) = S) ∧ Hid (Below w.heap.size w wr)) (fun _ i _ => R - (intOf i).toNat)
  case atStart => exact ⟨0, 0, Nat.zero_le _, rfl, rfl, rfl, Below.refl _ _⟩
  case round =>
    obtain ⟨k, S, hk, rfl, rfl, HN, HB⟩ := hrel
    by_cases hlt : k < R
    · have hlt' : k < T.length := by rw [HR.out]; exact hlt
      have dk : decide ((k : Int) < (R : Int)) = true := by simp; omega
      have hk1 : (k : Int) < (R : Int) := by omega
      obtain ⟨b, off, rfl, hb, u, hu, hp⟩ := HC.out k hlt'
      have hu2 := (HB.out.cell (p := ⟨b, off + k, none⟩) hb).trans hu
      obtain ⟨ua, uc, hue, -⟩ := hp.form
      have hsum := rowsM_take T k hlt'
      have hbd := HS.out (k + 1)
      generalize (T[k]).length = un at *
      subst hue
      rw [HN.out] at hsum
      have HN2 : Hid (rowsM (T.take (k + 1)) = S + un) := hsum
      rw [hsum] at hbd
      clear hsum hp hu
      go_wp2
      go_roundw
      case rel => exact ⟨k + 1, S + un, by omega, by go_num, by go_num, HN2, HB⟩
      case measure => simp [intOf]; omega
    · obtain rfl : k = R := by omega
      have dk : decide ((k : Int) < (k : Int)) = false := by simp
      have HE : Hid (rowsM T = S) := by
        have := HN.out
        rwa [List.take_of_length_le (by rw [HR.out]; exact Nat.le_refl _)] at this
      go_wp2
      go_ret
      exact ⟨by rw [HE.out]; rfl, HB.out⟩
end Go.Proofs.Ytbcikkofbdfmaaa
