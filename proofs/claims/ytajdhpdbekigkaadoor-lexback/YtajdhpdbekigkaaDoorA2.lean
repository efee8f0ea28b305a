/- How a list of tokens lies in memory; what the document's Digits answers; numbers up to 65535. -/
import Derived.Test.YtajdhpdbekigkaaDoorA1
import Derived.Lib.SmallJoins
import Derived.Lib.QuietBelow
import Derived.Deep.RegionWith
import Derived.Lib.ItoaLen
set_option linter.unusedVariables false
set_option linter.unusedSimpArgs false
namespace Go.Proofs.YtajdhpdbekigkaaDoor
open Go.RowKit Go.Joins

theorem heap_lt {w : World} {g : Nat} {o : Obj} (h : w.heap[g]? = some o) : g < w.heap.size := (Array.getElem?_eq_some_iff.1 h).1
theorem below_drewN {B : Nat} {a w : World} (h : Below B a w) (n : Nat) : Below B a (w.drewN n) := h.trans ⟨rfl, rfl, rfl, Nat.le_refl _, fun _ _ => rfl⟩
theorem own_below {w w' : World} {B e size n : Nat} {v : Value} {xs : List Value} (h : w.ownsRow B e size v n xs) (hb : Below w.heap.size w w') : w'.ownsRow B e size v n xs := by
  refine ⟨h.1, ?_⟩
  rcases h.2 with hn | ⟨g, cap, cur, rfl, hg, hgg, rest⟩
  · exact .inl hn
  · exact .inr ⟨g, cap, cur, rfl, hg, by rw [hb.block g (Array.getElem?_eq_some_iff.1 hgg).1]; exact hgg, rest⟩

/-- A token's cells. -/
def enc3 (t : Tk) : List Value := [.int .i64 t.kind, str t.s, .int .u16 (t.n : Int)]
/-- A token as a value. -/
abbrev tv (t : Tk) : Value := .agg #[.int .i64 t.kind, str t.s, .int .u16 (t.n : Int)]
/-- A token's cells lie there. -/
def At3 (w : World) (b o : Nat) (t : Tk) : Prop :=
  w.cell? ⟨b, o, none⟩ = some (.int .i64 t.kind) ∧ w.cell? ⟨b, o + 1, none⟩ = some (str t.s) ∧ w.cell? ⟨b, o + 2, none⟩ = some (.int .u16 (t.n : Int))
theorem At3.cell {w : World} {b o : Nat} {x : Tk} (h : At3 w b o x) : ∀ j, j < 3 → w.cell? ⟨b, o + j, none⟩ = (enc3 x)[j]? := by
  obtain ⟨h0, h1, h2⟩ := h
  intro j hj
  match j, hj with
  | 0, _ => exact h0
  | 1, _ => exact h1
  | 2, _ => exact h2
theorem At3.of {w : World} {b o : Nat} {x : Tk} (h : ∀ j, j < 3 → w.cell? ⟨b, o + j, none⟩ = (enc3 x)[j]?) : At3 w b o x :=
  ⟨h 0 (by decide), h 1 (by decide), h 2 (by decide)⟩
theorem At3.below {w w' : World} {b o B : Nat} {x : Tk} (h : At3 w b o x) (hB : Below B w w') (hb : b < B) : At3 w' b o x :=
  At3.of fun j hj => by rw [hB.cell (p := ⟨b, o + j, none⟩) hb]; exact h.cell j hj

/-- Tokens lie behind a slice. -/
def Tks (w : World) (v : Value) (L : List Tk) : Prop :=
  ∃ sa sc, v = .slice sa L.length sc ∧ ∀ k (hk : k < L.length), ∃ b off, sa = some ⟨b, off, none⟩ ∧ b < w.heap.size ∧ At3 w b (off + k * 3) L[k]
theorem Tks.below {w w' : World} {v : Value} {L : List Tk} (h : Tks w v L) (hB : Below w.heap.size w w') : Tks w' v L := by
  obtain ⟨sa, sc, hv, hc⟩ := h
  refine ⟨sa, sc, hv, fun k hk => ?_⟩
  obtain ⟨b, off, hs, hb, ha⟩ := hc k hk
  exact ⟨b, off, hs, Nat.lt_of_lt_of_le hb hB.size, ha.below hB hb⟩
theorem Tks.nil (w : World) : Tks w (.slice none 0 0) [] := ⟨none, 0, rfl, fun k hk => by simp at hk⟩

/-- The cells of tokens, one behind the other. -/
def flat3 (L : List Tk) : List Value := L.flatMap enc3
theorem flat3_append (a b : List Tk) : flat3 (a ++ b) = flat3 a ++ flat3 b := by simp [flat3]
theorem flat3_length : ∀ L : List Tk, (flat3 L).length = L.length * 3
  | [] => rfl
  | x :: r => by
    have := flat3_length r
    simp only [flat3, List.flatMap_cons, List.length_append, List.length_cons] at this ⊢
    rw [this, show (enc3 x).length = 3 from rfl]; omega
theorem flat3_get : ∀ (L : List Tk) (i : Nat) (h : i < L.length) (j : Nat), j < 3 → (flat3 L)[i * 3 + j]? = (enc3 L[i])[j]?
  | x :: r, 0, _, j, hj => by
    simp only [flat3, List.flatMap_cons]
    rw [List.getElem?_append_left (by rw [show (enc3 x).length = 3 from rfl]; omega)]
    simp
  | x :: r, i + 1, h, j, hj => by
    have := flat3_get r i (by simpa using h) j hj
    simp only [flat3, List.flatMap_cons] at this ⊢
    rw [List.getElem?_append_right (by rw [show (enc3 x).length = 3 from rfl]; omega), show (enc3 x).length = 3 from rfl, show (i + 1) * 3 + j - 3 = i * 3 + j by omega, this]
    rfl
theorem own_at {w : World} {g n : Nat} {cur : Array Value} {L : List Tk} (hgg : w.heap[g]? = some (.cells cur 26 (0, 0))) (hl : L.length = n) (htk : cur.toList.take (n * 3) = flat3 L) : ∀ i (h : i < L.length), At3 w g (0 + i * 3) L[i] := by
  subst hl
  intro i hi
  refine At3.of fun j hj => ?_
  rw [cell_of_row _ _ _ _ _ _ hgg]
  have hlt : i * 3 + j < L.length * 3 := by omega
  have := flat3_get L i hi j hj
  rw [← htk, List.getElem?_take_of_lt hlt, Array.getElem?_toList] at this
  rw [show 0 + i * 3 + j = i * 3 + j by omega]
  exact this
theorem tks_of_own {w : World} {B : Nat} {v : Value} {L : List Tk} (h : w.ownsRow B 26 3 v L.length (flat3 L)) : Tks w v L := by
  rcases h.2 with ⟨hv, hn⟩ | ⟨g, cap, cur, hv, hB, hgg, hcap, hmax, hsz, htk⟩
  · have : L = [] := List.length_eq_zero_iff.1 hn
    subst this
    exact ⟨none, 0, hv, fun k hk => by simp at hk⟩
  · exact ⟨_, cap, hv, fun k hk => ⟨g, 0, rfl, heap_lt hgg, own_at hgg rfl htk k hk⟩⟩
theorem cell_new3 (w : World) (vs : List Value) (t : TypeId) : ∀ j u, vs[j]? = some u → (w.alloc (.cells vs.toArray t)).cell? ((⟨w.heap.size, 0, none⟩ : Addr).add j) = some u := by
  intro j u hj
  rw [show (⟨w.heap.size, 0, none⟩ : Addr).add j = ⟨w.heap.size, j, none⟩ by unfold Addr.add; split <;> simp_all, cell_of_row _ _ _ _ _ _ (heap_alloc_new w (.cells vs.toArray t))]
  simpa using hj
theorem enc3_one (x : Tk) : ∀ u ∈ enc3 x, u.oneCell' = true := by
  intro u hu
  simp [enc3] at hu
  rcases hu with rfl | rfl | rfl <;> rfl
theorem flat3_one (L : List Tk) : ∀ u ∈ flat3 L, u.oneCell' = true := by
  intro u hu
  obtain ⟨x, _, hx⟩ := List.mem_flatMap.1 hu
  exact enc3_one x u hx
theorem info26 : (Tryd.prog.info? 26).map (fun i => (i.zero, i.size, i.bytes)) = some (some (tv tkEnd), 3, 32) := by kernel_rfl

/-! ### Digits -/
theorem wr64 (z : Int) (h0 : 0 ≤ z) (h1 : z ≤ 9223372036854775807) : IntKind.i64.wrap z = z := by
  simp [IntKind.wrap, IntKind.signed, IntKind.bits]; omega
theorem wr8 (z : Int) (h0 : 0 ≤ z) (h1 : z ≤ 255) : IntKind.u8.wrap z = z := by
  simp [IntKind.wrap, IntKind.signed, IntKind.bits]; omega
theorem lt_alloc (w : World) (o : Obj) : w.heap.size < ((w.alloc o).drew).heap.size := by simp
theorem cat_one (X : List UInt8) (c : UInt8) : Ending.returned (.string ((⟨X.toArray⟩ : ByteArray) ++ ⟨#[c]⟩)) = .returned (.string ⟨(X ++ [c]).toArray⟩) := by
  have e : ((⟨X.toArray⟩ : ByteArray) ++ ⟨#[c]⟩) = ⟨(X ++ [c]).toArray⟩ := by
    apply ByteArray.ext
    rw [ByteArray.data_append]
    simp
  rw [e]
theorem conv_byte (W : World) (b : Nat) (z : Int) (h : W.cell? ⟨b, 0, none⟩ = some (.int .u8 z)) :
    (convert 35 9 (.slice (some ⟨b, 0, none⟩) 1 1)).run Tryd.prog W = .ok (.string ⟨#[UInt8.ofNat z.toNat]⟩) W := by
  have := run_convert_bytes_arg (P := Tryd.prog) W 35 5 Tryd.underlying35 Tryd.underlying5 b 0 1 1 [z] rfl (fun i hi => by
    obtain rfl : i = 0 := by omega
    simpa using h) 9 Tryd.underlying9
  rw [this]; rfl

set_option maxRecDepth 100000 in
set_option maxHeartbeats 400000 in
theorem digits_small (n : Nat) (h : n < 10) (w : World) : Calls Tryd.prog 14 #[.int .i64 n] w fun e w' => e = .returned (.string ⟨(Lib.decDigits n).toArray⟩) ∧ Below w.heap.size w w' := by
  have d : decide ((n : Int) < 10) = true := by simp; omega
  have hcv := fun W b => conv_byte W b (48 + (n : Int))
  have hd : Hid (Lib.decDigits n = [UInt8.ofNat (48 + (n : Int)).toNat]) := by
    show _ = _
    rw [Lib.decDigits_one h]
    congr 2
  generalize UInt8.ofNat (48 + (n : Int)).toNat = c at *
  go_enter Tryd.func14, Tryd.ntmps14
  go_wp2
  go_ret
  exact ⟨by rw [hd.out]; rfl, (Below.refl _ _).alloc (Nat.le_refl _) _⟩

set_option maxRecDepth 100000 in
set_option maxHeartbeats 1000000 in
theorem digits_step (n : Nat) (h : ¬ n < 10) (hn : n ≤ 65535) (w : World) (ih : Hid (∀ w : World, Calls Tryd.prog 14 #[.int .i64 ((n : Int) / 10)] w fun e w' => e = .returned (.string ⟨(Lib.decDigits (n / 10)).toArray⟩) ∧ Below w.heap.size w w')) :
    Calls Tryd.prog 14 #[.int .i64 n] w fun e w' => e = .returned (.string ⟨(Lib.decDigits n).toArray⟩) ∧ Below w.heap.size w w' := by
  have d : decide ((n : Int) < 10) = false := by simp; omega
  have hcv := fun W b => conv_byte W b (48 + (n : Int) % 10)
  have hd : Hid (Lib.decDigits n = Lib.decDigits (n / 10) ++ [UInt8.ofNat (48 + (n : Int) % 10).toNat]) := by
    show _ = _
    rw [Lib.decDigits, dif_neg h]
    congr 3
  have hlen : (Lib.decDigits (n / 10)).length ≤ 20 := by
    have := digits_len5 (n / 10) (by omega)
    omega
  generalize UInt8.ofNat (48 + (n : Int) % 10).toNat = c at *
  generalize Lib.decDigits (n / 10) = X at *
  have e1 : (n : Int).tmod 10 = (n : Int) % 10 := Int.tmod_eq_emod_of_nonneg (by omega)
  have e2 : IntKind.i64.wrap ((n : Int) / 10) = (n : Int) / 10 := wr64 _ (by omega) (by omega)
  have e3 : IntKind.i64.wrap (48 + (n : Int) % 10) = 48 + (n : Int) % 10 := wr64 _ (by omega) (by omega)
  have e4 : IntKind.u8.wrap (48 + (n : Int) % 10) = 48 + (n : Int) % 10 := wr8 _ (by omega) (by omega)
  go_enter Tryd.func14, Tryd.ntmps14
  go_wp2
  go_region_with (go_at_call 14; refine (ih.out _).mono ?_; rintro e w1 ⟨rfl, hb1⟩; (first | (have hc1 := hb1.cell (p := ⟨w.heap.size, 0, none⟩) (lt_alloc w _); simp at hc1) | skip))
  all_goals
    go_wp2
    go_ret
    refine ⟨by rw [hd.out]; exact cat_one X c, ?_⟩
  · have hb : Below w.heap.size w w1 := (Below.refl _ w).drew.trans hb1
    exact hb.alloc hb.size _
  · exact (((Below.refl _ w).alloc (Nat.le_refl _) _).drew).trans (hb1.mono (Nat.le_of_lt (lt_alloc w _)))
  · exact (((Below.refl _ w).alloc (Nat.le_refl _) _).drew).trans (hb1.mono (Nat.le_of_lt (lt_alloc w _)))

theorem digits_any : ∀ (n : Nat), n ≤ 65535 → ∀ w : World, Calls Tryd.prog 14 #[.int .i64 n] w fun e w' => e = .returned (.string ⟨(Lib.decDigits n).toArray⟩) ∧ Below w.heap.size w w' := by
  intro n
  induction n using Nat.strongRecOn with
  | ind n ih =>
    intro hn w
    by_cases h : n < 10
    · exact digits_small n h w
    · refine digits_step n h hn w (fun w => ?_)
      have := ih (n / 10) (by omega) (by omega) w
      rw [show ((n : Int) / 10) = ((n / 10 : Nat) : Int) from by omega]
      exact this
end Go.Proofs.YtajdhpdbekigkaaDoor
