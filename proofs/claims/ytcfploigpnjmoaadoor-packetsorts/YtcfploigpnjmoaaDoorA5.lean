/- What stands beside a call all the while (the listed variables, the memory's shape), and what packet.readNumber and packet.readPair answer, for every text of at most 1000 bytes. -/
import Derived.Test.YtcfploigpnjmoaaDoorA4
import Derived.Test.YtcfploigpnjmoaaDoorShelf
import Derived.Lib.SmallJoins
import Derived.Deep.DeepFit
set_option linter.unusedVariables false
set_option linter.unusedSimpArgs false
namespace Go.Proofs.YtcfploigpnjmoaaDoor
open Go.RowKit Go.Joins Go.Sort

/-- The listed variables hold what the row lists, and memory has its shape. -/
structure Env (w : World) : Prop where
  names : NamesIs w
  shape : w.ShapedOpen Tryd.prog
  pow : Lib.TabIs Tryd.prog w "internal/strconv.uint64pow10" .u64 Lib.pow10Tab
  syn : ∃ tp p, w.var? Tryd.prog "strconv.ErrSyntax" = some #[.iface tp p]
  rng : ∃ tp p, w.var? Tryd.prog "strconv.ErrRange" = some #[.iface tp p]

theorem NamesIs.below {w w' : World} (h : NamesIs w) (hb : Below w.heap.size w w') : NamesIs w' := by
  have h0 : 0 < w.heap.size := by have := block_lt_of_cell h.c0; simpa using this
  have q := fun o => hb.cell (p := ⟨0, o, none⟩) h0
  exact ⟨by rw [q]; exact h.c0, by rw [q]; exact h.c1, by rw [q]; exact h.c2, by rw [q]; exact h.c3, by rw [q]; exact h.c4, by rw [q]; exact h.c5, by rw [q]; exact h.c6, by rw [q]; exact h.c7⟩
theorem gPow : Tryd.prog.globalNamed "internal/strconv.uint64pow10" = some 2 := by kernel_rfl
theorem gSyn : Tryd.prog.globalNamed "strconv.ErrSyntax" = some 3 := by kernel_rfl
theorem gRng : Tryd.prog.globalNamed "strconv.ErrRange" = some 4 := by kernel_rfl
theorem Env.below {w w' : World} (h : Env w) (hb : Below w.heap.size w w') : Env w' := by
  refine ⟨h.names.below hb, h.shape.keptBut (hb.frame (fun _ => False)) (fun _ hp => hp.elim), tab_stays gPow h.pow hb (Nat.le_refl _), ?_, ?_⟩
  · obtain ⟨tp, p, hv⟩ := h.syn; exact ⟨tp, p, var_stays gSyn hv hb (Nat.le_refl _)⟩
  · obtain ⟨tp, p, hv⟩ := h.rng; exact ⟨tp, p, var_stays gRng hv hb (Nat.le_refl _)⟩

theorem parseUintM_le : ∀ (l : List UInt8) (M acc u : Nat), acc ≤ M → Lib.parseUintM M acc l = .ok u → u ≤ M
  | [], M, acc, u, ha, h => by
    simp only [Lib.parseUintM] at h
    injection h with h
    omega
  | c :: r, M, acc, u, ha, h => by
    simp only [Lib.parseUintM] at h
    split at h
    · split at h
      · cases h
      · split at h
        · cases h
        · exact parseUintM_le r M _ u (by omega) h
    · cases h
theorem parseUintB_le (l : List UInt8) (u : Nat) (h : Lib.parseUintB 16 l = .ok u) : u ≤ 65535 := by
  unfold Lib.parseUintB at h
  split at h
  · cases h
  · exact parseUintM_le l _ 0 u (Nat.zero_le _) h

/-- strconv.ParseUint of what is no number of sixteen bits: some error, whatever the number beside it. -/
theorem parse_fails (s : ByteArray) (hs : s.size ≤ 1000) (hn : ∀ u, Lib.parseUintB 16 s.data.toList ≠ .ok u) (w : World) (h : Env w) :
    Calls Tryd.prog 54 #[.string s, .int .i64 10, .int .i64 16] w fun e w' => ∃ n N, e = .returned (.tuple #[.int .u64 n, .iface 122 (.pointer (some ⟨N, 0, none⟩))]) ∧ Below w.heap.size w w' := by
  cases hp : Lib.parseUintB 16 s.data.toList
  · exact absurd hp (hn _)
  · obtain ⟨tp, p, hv⟩ := h.syn
    refine (Any.strconv_ParseUint_10_at16_syntax_var Tryd.laysPu14 s (by omega) hp tp p w hv).mono ?_
    rintro e w' ⟨N, he, _, _, hb⟩
    exact ⟨_, N, he, hb⟩
  · obtain ⟨tp, p, hv⟩ := h.rng
    refine (Any.strconv_ParseUint_10_at16_range_var Tryd.laysPu14 s (by omega) hp tp p w hv).mono ?_
    rintro e w' ⟨N, he, _, _, hb⟩
    exact ⟨_, N, he, hb⟩

/-- What readNumber makes of a text. -/
def rnum (l : List UInt8) : Option Nat := if 5 < l.length then none else match Lib.parseUintB 16 l with | .ok u => some u | _ => none

set_option maxHeartbeats 400000 in
theorem readNumber_any (s : ByteArray) (hs : s.size ≤ 1000) (w : World) (h : Env w) :
    Calls Tryd.prog 47 #[.string s] w fun e w' => e = .returned (.tuple #[.int .u16 ((rnum s.data.toList).getD 0 : Nat), .bool (rnum s.data.toList).isSome]) ∧ Below w.heap.size w w' := by
  have hlen : s.data.toList.length = s.size := by simp
  by_cases h5 : 5 < s.size
  · have hr : Hid (rnum s.data.toList = none) := by show rnum _ = none; unfold rnum; rw [if_pos (by omega)]
    clear h
    go_enter Tryd.func47, Tryd.ntmps47
    go_wp2_with fail
    go_ret2
    exact ⟨by rw [hr.out]; rfl, Below.refl _ _⟩
  · by_cases hok : ∃ u, Lib.parseUintB 16 s.data.toList = .ok u
    · obtain ⟨u, hu⟩ := hok
      have hle := parseUintB_le _ _ hu
      have hr : Hid (rnum s.data.toList = some u) := by show rnum _ = some u; unfold rnum; rw [if_neg (by omega), hu]
      have hU : Hid (Lib.parseUintB 16 s.data.toList = .ok u) := hu
      clear hu
      go_enter Tryd.func47, Tryd.ntmps47
      go_wp2_with fail
      refine (Tryd.strconv_ParseUint_10_at16_ok s (by omega) u hU.out _).mono ?_
      rintro e w1 ⟨rfl, hw1⟩
      have hb : Below w.heap.size w w1 := by
        rcases hw1 with rfl | rfl
        · exact Below.refl _ _
        · exact below_bytesWorld _ _ _ _ (Nat.le_refl _)
      clear hw1 h
      go_wp2
      go_ret2
      exact ⟨by rw [hr.out]; rfl, hb⟩
    · have hn : ∀ u, Lib.parseUintB 16 s.data.toList ≠ .ok u := fun u hu => hok ⟨u, hu⟩
      have hr : Hid (rnum s.data.toList = none) := by
        show rnum _ = none
        unfold rnum
        rw [if_neg (by omega)]
        cases hp : Lib.parseUintB 16 s.data.toList
        · exact absurd hp (hn _)
        · rfl
        · rfl
      have hN : Hid (∀ u, Lib.parseUintB 16 s.data.toList ≠ .ok u) := hn
      clear hok hn
      go_enter Tryd.func47, Tryd.ntmps47
      go_wp2_with fail
      refine (parse_fails s hs hN.out _ h).mono ?_
      rintro e w1 ⟨n, N, rfl, hb⟩
      clear h
      go_wp2
      go_ret2
      exact ⟨by rw [hr.out]; rfl, hb⟩

theorem field_list (x : List UInt8) (w : World) (h : Env w) : Calls Tryd.prog 9 #[.string ⟨x.toArray⟩] w fun e w' => e = .returned (.tuple #[.int .i64 (fldI x), .bool (fldB x)]) ∧ w' = w := by
  have := field_any ⟨x.toArray⟩ w h.names
  rw [Lib.toList_data] at this
  exact this
theorem readNumber_list (x : List UInt8) (hx : x.length ≤ 1000) (w : World) (h : Env w) : Calls Tryd.prog 47 #[.string ⟨x.toArray⟩] w fun e w' => e = .returned (.tuple #[.int .u16 ((rnum x).getD 0 : Nat), .bool (rnum x).isSome]) ∧ Below w.heap.size w w' :=
  readNumber_any ⟨x.toArray⟩ (by simpa [ByteArray.size] using hx) w h

/-- What readPair makes of a word. -/
def rpair (l : List UInt8) : Option (Nat × Nat) :=
  match fieldOf (Lib.cut l [61]).1, rnum (Lib.cut l [61]).2.1 with
  | some f, some n => some (f, n)
  | _, _ => none

theorem cut_small (l sep : List UInt8) : (Lib.cut l sep).1.length ≤ l.length ∧ (Lib.cut l sep).2.1.length ≤ l.length := by
  unfold Lib.cut; split <;> simp <;> omega

set_option maxHeartbeats 400000 in
theorem readPair_any (s : ByteArray) (hs : s.size ≤ 1000) (w : World) (h : Env w) :
    Calls Tryd.prog 35 #[.string s] w fun e w' => e = .returned (.tuple #[.int .i64 (((rpair s.data.toList).getD (0, 0)).1 : Nat), .int .u16 (((rpair s.data.toList).getD (0, 0)).2 : Nat), .bool (rpair s.data.toList).isSome]) ∧ Below w.heap.size w w' := by
  have hlen : s.data.toList.length = s.size := by simp
  have hcs := cut_small s.data.toList [61]
  have hrp : Hid (rpair s.data.toList = match fieldOf (Lib.cut s.data.toList [61]).1, rnum (Lib.cut s.data.toList [61]).2.1 with | some f, some n => some (f, n) | _, _ => none) := rfl
  go_enter Tryd.func35, Tryd.ntmps35
  go_wp2_with fail
  refine (Tryd.strings_Cut_shaped s ⟨#[61]⟩ w h.shape (by omega)).mono ?_
  rintro e w1 ⟨rfl, n1, rfl⟩
  have hE1 : Env (w.drewN n1) := h.below (below_drewN (Below.refl _ _) _)
  rw [show (⟨#[61]⟩ : ByteArray).data.toList = [61] from rfl]
  generalize (Lib.cut s.data.toList [61]).1 = x at *
  generalize (Lib.cut s.data.toList [61]).2.1 = y at *
  generalize (Lib.cut s.data.toList [61]).2.2 = z at *
  clear h
  go_wp2_with fail
  refine (field_list x _ hE1).mono ?_
  rintro e w2 ⟨rfl, hw2⟩
  rw [hw2]
  clear hw2
  unfold fldI fldB
  cases hf : fieldOf x with
  | none =>
    rw [hf] at hrp
    have HR : Hid (rpair s.data.toList = none) := hrp
    clear hrp hf
    go_wp2_with fail
    refine (readNumber_list y (by omega) _ hE1).mono ?_
    rintro e w3 ⟨rfl, hb⟩
    clear hE1
    generalize (rnum y).isSome = ok at *
    generalize (rnum y).getD 0 = num at *
    go_wp2
    go_ret3
    exact ⟨by rw [HR.out]; rfl, (below_drewN (Below.refl _ _) _).trans hb⟩
  | some f =>
    rw [hf] at hrp
    cases hr : rnum y with
    | none =>
      rw [hr] at hrp
      have HR : Hid (rpair s.data.toList = none) := hrp
      have HN : Hid (rnum y = none) := hr
      clear hrp hf hr
      go_wp2_with fail
      refine (readNumber_list y (by omega) _ hE1).mono ?_
      rintro e w3 ⟨rfl, hb⟩
      rw [HN.out]
      clear hE1
      go_wp2
      go_ret3
      exact ⟨by rw [HR.out]; rfl, (below_drewN (Below.refl _ _) _).trans hb⟩
    | some m =>
      rw [hr] at hrp
      have HR : Hid (rpair s.data.toList = some (f, m)) := hrp
      have HN : Hid (rnum y = some m) := hr
      clear hrp hf hr
      go_wp2_with fail
      refine (readNumber_list y (by omega) _ hE1).mono ?_
      rintro e w3 ⟨rfl, hb⟩
      rw [HN.out]
      clear hE1
      go_wp2
      go_ret3
      exact ⟨by rw [HR.out]; rfl, (below_drewN (Below.refl _ _) _).trans hb⟩
end Go.Proofs.YtcfploigpnjmoaaDoor
