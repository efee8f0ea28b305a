/- Rows are sorted, by whichever road; no conditions but the row's length. -/
import Derived.Test.YtipiepcbgjceaaaO3
import Derived.Test.YtipiepcbgjceaaaO8
import Derived.Test.YtipiepcbgjceaaaO9
import Derived.Test.YtipiepcbgjceaaaOA
import Derived.Sort.LotD3
import Derived.Sort.LotB
import Derived.Deep.Cut
import Derived.Deep.CutRange
import Derived.Deep.LoopGhost
import Derived.Shelf.SlicesE.Compact
set_option linter.unusedVariables false
set_option linter.unusedSimpArgs false
namespace Go.Proofs.Ytipiepcbgjceaaa
open Go.RowKit Go.Joins Go.Sort

set_option maxRecDepth 1000000 in
set_option maxHeartbeats 16000000 in
theorem pdq_any : ∀ (n b off cap a z l N : Nat) (d : Array Int) (w : World), z - a < n → Holds (Value.int .u16) w b off d → b < w.heap.size → a ≤ z → z ≤ N → d.size = N → N ≤ 100000 → l ≤ 64 → Go.Sort.Below ltInt a z d →
    Calls Try.prog 86 #[.slice (some ⟨b, off, none⟩) N cap, .int .i64 a, .int .i64 z, .int .i64 l] w fun e w' => e = .returned (.tuple #[]) ∧ ∃ d', PermIn a z d d' ∧ SortedIn ltInt a z d' ∧ Sd w b off d d' w' := by
  intro n
  induction n with
  | zero => intro b off cap a z l N d w h; exact absurd h (Nat.not_lt_zero _)
  | succ n ih =>
    intro b off cap a z l N d w hn hH hb haz hz hd hN hl hB
    have S0 : Hid (Sd w b off d d w) := Sd.start hH hb
    have HD : Hid (d.size = N) := hd
    have HB0 := hid hB
    have IH := hid ih
    clear hH hd hB ih
    go_enter Try.func86, Try.ntmps86
    go_wp2
    go_loopg [1, 2, 3, 8, 9] (z - a) (fun k s1 s2 s3 s8 s9 wr => ∃ (A Z L : Nat) (wb wp : Bool) (y : Array Int), s1 = .int .i64 A ∧ s2 = .int .i64 Z ∧ s3 = .int .i64 L ∧ s8 = .bool wb ∧ s9 = .bool wp ∧
      a ≤ A ∧ A ≤ Z ∧ Z ≤ z ∧ Z - A ≤ k ∧ k ≤ z - a ∧ L ≤ 64 ∧ Hid (Sd w b off d y wr) ∧ Hid (Go.Sort.Below ltInt A Z y) ∧ Hid (∀ R, PermIn A Z y R → SortedIn ltInt A Z R → PermIn a z d R ∧ SortedIn ltInt a z R))
    case atStart => exact ⟨a, z, l, true, true, d, rfl, rfl, rfl, rfl, rfl, Nat.le_refl _, haz, Nat.le_refl _, Nat.le_refl _, Nat.le_refl _, hl, S0, HB0, fun R h1 h2 => ⟨h1, h2⟩⟩
    case round =>
      obtain ⟨A, Z, L, wb, wp, y, rfl, rfl, rfl, rfl, rfl, hA, hAZ, hZ, hk, hkk, hL, HT, HB, HF⟩ := hrel
      clear S0 HB0
      have hy : Hid (y.size = N) := by unfold Hid; rw [HT.out.size]; exact HD.out
      by_cases h12 : Z - A ≤ 12
      · have h12z : (Z : Int) - (A : Int) ≤ 12 := by omega
        have cI := ins_any b off cap A Z N y wr HT.out.holds HT.out.lt' hAZ (by omega) hy.out hN
        go_wp2_with (go_at_call 94; refine cI.mono ?_; rintro e w1 ⟨rfl, hS⟩)
        refine bodyPost_ret (v := .tuple #[]) (by simp [results, Try.results86, go_sem]) rfl ⟨rfl, ?_⟩
        have hys : y.size = N := hy.out
        obtain ⟨p1, p2⟩ := insertionSort_holds swo_ltInt y A Z hAZ (by omega)
        obtain ⟨q1, q2⟩ := HF.out _ p1 p2
        exact ⟨_, q1, q2, HT.out.trans hS⟩
      · have h12z : ¬ ((Z : Int) - (A : Int) ≤ 12) := by omega
        by_cases hl0 : L = 0
        · subst hl0
          have cH := heap_any b off cap A Z N y wr HT.out.holds HT.out.lt' (by omega) (by omega) hy.out hN
          go_wp2_with (go_at_call 95; refine cH.mono ?_; rintro e w1 ⟨rfl, hS⟩)
          refine bodyPost_ret (v := .tuple #[]) (by simp [results, Try.results86, go_sem]) rfl ⟨rfl, ?_⟩
          have hys : y.size = N := hy.out
          obtain ⟨p1, p2⟩ := heapSort_holds swo_ltInt y A Z hAZ (by omega)
          obtain ⟨q1, q2⟩ := HF.out _ p1 p2
          exact ⟨_, q1, q2, HT.out.trans hS⟩
        · have hl0z : ¬ ((L : Int) = 0) := by omega
          go_upto_if 35 with fail
          go_cut [3] from 19 to 133 (fun s3 wc => ∃ (L2 : Nat) (y1 : Array Int), s3 = .int .i64 L2 ∧ L2 ≤ 64 ∧ Hid (Sd w b off d y1 wc) ∧ Hid (PermIn A Z y y1))
          case first =>
            cases wb
            · have cB := break_any b off cap A Z N y wr HT.out.holds HT.out.lt' (by omega) (by omega) hy.out hN
              go_wp2_with (go_at_call 96; refine cB.mono ?_; rintro e w1 ⟨rfl, y1, hp, hS⟩)
              go_meet
              case rel => exact ⟨L - 1, y1, by congr 1; omega, by omega, HT.out.trans hS, hp⟩
            · go_wp2_with fail
              go_meet
              case rel => exact ⟨L, y, rfl, hL, HT, permIn_refl _ _ _⟩
          case rest =>
            obtain ⟨L2, y1, rfl, hL2, HT1, HP1⟩ := hcut
            clear HT
            have hy1 : Hid (y1.size = N) := by unfold Hid; rw [HT1.out.size]; exact HD.out
            have cC := choose_any b off cap A Z N y1 wc HT1.out.holds HT1.out.lt' (by omega) (by omega) hy1.out hN
            go_upto_if 50 with (go_at_call 97; refine cC.mono ?_; rintro e w2 ⟨p, hint, rfl, hp1, hp2, hh, hS2⟩)
            have HT2 := hid (HT1.out.trans hS2)
            clear HT1 hS2 cC
            go_cut [11, 12] from 19 to 133 (fun s11 s12 wc => ∃ (p2 : Nat) (hint2 : Int) (y2 : Array Int), s11 = .int .i64 p2 ∧ s12 = .int .i64 hint2 ∧ A ≤ p2 ∧ p2 < Z ∧ (hint2 = 0 ∨ hint2 = 1) ∧ Hid (Sd w b off d y2 wc) ∧ Hid (PermIn A Z y y2))
            case first =>
              by_cases hh2 : hint = 2
              · subst hh2
                have cR := reverse_any b off cap A Z N y1 w2 HT2.out.holds HT2.out.lt' (by omega) (by omega) hy1.out hN
                go_wp2_with (go_at_call 98; refine cR.mono ?_; rintro e w1 ⟨rfl, y2, hp, hS⟩)
                go_meet
                case rel => exact ⟨(Z - 1) - (p - A), 1, y2, by congr 1; omega, rfl, by omega, by omega, .inr rfl, HT2.out.trans hS, permIn_trans _ _ _ _ _ HP1.out hp⟩
              · have hh3 : (hint == 2) = false := by simp [hh2]
                go_wp2_with fail
                go_meet
                case rel => exact ⟨p, hint, y1, rfl, rfl, hp1, hp2, by omega, HT2, HP1⟩
            case rest =>
              obtain ⟨p2, hint2, y2, rfl, rfl, hp3, hp4, hh2, HT3, HP2⟩ := hcut
              clear HT2 hh hy1 HP1
              have hy2 : Hid (y2.size = N) := by unfold Hid; rw [HT3.out.size]; exact HD.out
              go_upto_region 15 with fail
              go_cut [68] from 19 to 133 (fun s68 wx => ∃ t : Bool, s68 = .bool t ∧ wx = wc)
              case first =>
                rcases hh2 with rfl | rfl <;> cases wb <;> cases wp <;>
                  (go_wp2_with fail
                   go_meet
                   exact ⟨_, rfl, rfl⟩)
              case rest =>
                obtain ⟨t, rfl, rfl⟩ := hcut
                have hys : y.size = N := hy.out
                have hyz : Z ≤ y.size := by omega
                have B2 : Go.Sort.Below ltInt A Z y2 := HB.out.perm hyz HP2.out
                obtain ⟨y3, t3, h3⟩ : ∃ y3 t3, partialInsertionSort ltInt y2 A Z = (y3, t3) := ⟨_, _, rfl⟩
                have cP := partial_any b off cap A Z N y2 wc HT3.out.holds HT3.out.lt' (by omega) (by omega) hy2.out hN
                have hq := partialInsertionSort_holds (lt := ltInt) swo_ltInt y2 A Z (by omega) (by rw [hy2.out]; omega) B2
                rw [h3] at cP hq
                dsimp only at cP hq
                have HQ := hid hq
                have HB2 := hid B2
                clear hq h3 B2 hys hyz
                go_upto_if 68 with fail
                go_cut [] from 19 to 133 (fun wx => ∃ y4, Hid (Sd w b off d y4 wx) ∧ Hid (PermIn A Z y2 y4))
                case first =>
                  cases t
                  · go_wp2_with fail
                    go_meet
                    case rel => exact ⟨y2, HT3, permIn_refl _ _ _⟩
                  · cases t3
                    · go_wp2_with (go_at_call 99; refine cP.mono ?_; rintro e w4 ⟨rfl, hS⟩)
                      go_meet
                      case rel => exact ⟨y3, HT3.out.trans hS, HQ.out.1⟩
                    · go_wp2_with (go_at_call 99; refine cP.mono ?_; rintro e w4 ⟨rfl, hS⟩)
                      refine bodyPost_ret (v := .tuple #[]) (by simp [results, Try.results86, go_sem]) rfl ⟨rfl, ?_⟩
                      obtain ⟨q1, q2⟩ := HF.out _ (permIn_trans _ _ _ _ _ HP2.out HQ.out.1) (HQ.out.2 (by simp))
                      exact ⟨_, q1, q2, HT3.out.trans hS⟩
                case rest =>
                  obtain ⟨y4, HT4, HP4⟩ := hcut
                  clear HT3 cP HQ
                  have hy4 : Hid (y4.size = N) := by unfold Hid; rw [HT4.out.size]; exact HD.out
                  have HB4 : Hid (Go.Sort.Below ltInt A Z y4) := by
                    have hys : y2.size = N := hy2.out
                    exact HB2.out.perm (by omega) HP4.out
                  have HP : Hid (PermIn A Z y y4) := permIn_trans _ _ _ _ _ HP2.out HP4.out
                  clear HB2 hy2 HP2 HP4
                  obtain ⟨G, HG, hc, hf⟩ := HT4.out.cells HD.out
                  go_upto_region 17 with fail
                  go_cut [87] from 19 to 133 (fun s87 wx => s87 = .bool (decide (0 < A) && !ltInt (G (A - 1)) (G p2)) ∧ Hid (Sd w b off d y4 wx))
                  case first =>
                    by_cases hA0 : 0 < A
                    · have dA : decide ((0 : Int) < (A : Int)) = true := by simp; omega
                      go_quiet ((go_at_call 87; exact Calls.quiet_of_same (less_lt _ _ _)))
                      go_wp2_with fail
                      go_meet
                      case rel => exact ⟨by simp [hA0], HT4.out.drewN nq⟩
                    · have dA : decide ((0 : Int) < (A : Int)) = false := by simp; omega
                      go_quiet ((go_at_call 87; exact Calls.quiet_of_same (less_lt _ _ _)))
                      go_wp2_with fail
                      go_meet
                      case rel => exact ⟨by simp [hA0], HT4.out.drewN nq⟩
                  case rest =>
                    obtain ⟨rfl, HT5⟩ := hcut
                    clear HT4 hc hf
                    have hys : y4.size = N := hy4.out
                    cases h87 : (decide (0 < A) && !ltInt (G (A - 1)) (G p2))
                    · obtain ⟨mid, ap, y5, hx⟩ : ∃ mid ap y5, partition ltInt y4 A Z p2 = (mid, ap, y5) := ⟨_, _, _, rfl⟩
                      obtain ⟨r1, r2, r3, r4, r5, r6, r7⟩ := round_part swo_ltInt (partition_holds ltInt) hp3 hp4 (show Z ≤ y4.size by omega) HB4.out hx
                      have cT := part_any b off cap A Z p2 N y4 wc HT5.out.holds HT5.out.lt' hp3 hp4 (by omega) hys hN
                      rw [hx] at cT
                      dsimp only at cT
                      have HR := hid (And.intro r4 (And.intro r5 (And.intro r6 r7)))
                      have h53 : Hid (y5.size = N) := r3.trans hys
                      clear hx r4 r5 r6 r7 r3 hys
                      go_upto_if 113 with (go_at_call 101; refine cT.mono ?_; rintro e w7 ⟨rfl, hS⟩)
                      have HT6 := hid (HT5.out.trans hS)
                      clear HT5 hS cT
                      by_cases h4 : mid - A < Z - mid
                      · have h4z : (mid : Int) - (A : Int) < (Z : Int) - (mid : Int) := by omega
                        have c1 := IH.out b off cap A mid L2 N y5 w7 (by omega) HT6.out.holds HT6.out.lt' r1 (by omega) h53.out hN hL2 HR.out.1
                        go_wp2_with (go_at_call 86; refine c1.mono ?_; rintro e w8 ⟨rfl, y6, hp6, hs6, hS6⟩)
                        go_roundg (Z - (mid + 1))
                        case measure => omega
                        case rel =>
                          obtain ⟨f1, f2⟩ := HR.out.2.2.1 y6 hp6 hs6
                          exact ⟨mid + 1, Z, L2, _, _, y6, by go_num, rfl, rfl, rfl, rfl, by omega, by omega, by omega, Nat.le_refl _, by omega, hL2, HT6.out.trans hS6, f1, fun R h1 h2 => by
                            obtain ⟨k1, k2⟩ := f2 R h1 h2
                            exact HF.out R (permIn_trans _ _ _ _ _ HP.out k1) k2⟩
                      · have h4z : ¬ ((mid : Int) - (A : Int) < (Z : Int) - (mid : Int)) := by omega
                        have c1 := IH.out b off cap (mid + 1) Z L2 N y5 w7 (by omega) HT6.out.holds HT6.out.lt' (by omega) (by omega) h53.out hN hL2 HR.out.2.1
                        go_wp2_with (go_at_call 86; refine c1.mono ?_; rintro e w8 ⟨rfl, y6, hp6, hs6, hS6⟩)
                        go_roundg (mid - A)
                        case measure => omega
                        case rel =>
                          obtain ⟨f1, f2⟩ := HR.out.2.2.2 y6 hp6 hs6
                          exact ⟨A, mid, L2, _, _, y6, rfl, rfl, rfl, rfl, rfl, by omega, by omega, by omega, Nat.le_refl _, by omega, hL2, HT6.out.trans hS6, f1, fun R h1 h2 => by
                            obtain ⟨k1, k2⟩ := f2 R h1 h2
                            exact HF.out R (permIn_trans _ _ _ _ _ HP.out k1) k2⟩
                    · have h87' := h87
                      rw [HG.out, HG.out] at h87'
                      simp only [Bool.and_eq_true, decide_eq_true_eq, Bool.not_eq_true'] at h87'
                      obtain ⟨mid, y5, hx⟩ : ∃ mid y5, partitionEqual ltInt y4 A Z p2 = (mid, y5) := ⟨_, _, rfl⟩
                      obtain ⟨r1, r2, r3, r4, r5⟩ := round_eq swo_ltInt (partitionEqual_holds ltInt) h87'.1 hp3 hp4 (show Z ≤ y4.size by omega) HB4.out h87'.2 hx
                      have cE := partEq_any b off cap A Z p2 N y4 wc HT5.out.holds HT5.out.lt' hp3 hp4 (by omega) hys hN
                      rw [hx] at cE
                      dsimp only at cE
                      have HR := hid (And.intro r4 r5)
                      clear hx r4 r5 r3 h87' hys
                      go_wp2_with (go_at_call 100; refine cE.mono ?_; rintro e w7 ⟨rfl, hS⟩)
                      go_roundg (Z - mid)
                      case measure => omega
                      case rel =>
                        exact ⟨mid, Z, L2, wb, wp, y5, rfl, rfl, rfl, rfl, rfl, by omega, by omega, by omega, Nat.le_refl _, by omega, hL2, HT5.out.trans hS, HR.out.1, fun R h1 h2 => by
                          obtain ⟨k1, k2⟩ := HR.out.2 R h1 h2
                          exact HF.out R (permIn_trans _ _ _ _ _ HP.out k1) k2⟩
end Go.Proofs.Ytipiepcbgjceaaa
/- slices.Sort and slices.Compact at numbers of 16 bits; no conditions but the row's length. -/
set_option linter.unusedVariables false
set_option linter.unusedSimpArgs false
namespace Go.Proofs
open Go.Shelf
def Try.comp_ren : Go.Shelf.Ren := ⟨fun | 43 => 72 | _ => 0, fun | 0 => 0 | 3 => 3 | 4 => 4 | 22 => 23 | 23 => 24 | _ => 0, fun n => n⟩
theorem Try.compL : Go.Proofs.SlLaysE.n43 Try.prog Try.comp_ren := {
  mixed := by kernel_rfl
  f43 := ⟨Try.f72.name, by decide, Try.func72.trans (congrArg some (by kernel_rfl))⟩
  t0 := Try.underlying0
  a0 := Try.isAgg0
  z0 := Try.sizeOf0
  v0 := Try.zeroValue0
  t3 := Try.underlying3
  a3 := Try.isAgg3
  z3 := Try.sizeOf3
  v3 := Try.zeroValue3
  t4 := Try.underlying4
  a4 := Try.isAgg4
  z4 := Try.sizeOf4
  v4 := Try.zeroValue4
  t22 := Try.underlying23
  a22 := Try.isAgg23
  z22 := Try.sizeOf23
  v22 := Try.zeroValue23
  a23 := Try.isAgg24
  z23 := Try.sizeOf24 }
end Go.Proofs
namespace Go.Proofs.Ytipiepcbgjceaaa
open Go.RowKit Go.Joins Go.Sort Go.Lib

/-! ### Once each -/
theorem once_upto (d : Array Int) (hs : ∀ i j, i < j → j < d.size → d[i]! ≤ d[j]!) : ∀ m, m ≤ d.size →
    (compactUpTo d m).Pairwise (· < ·) ∧ (∀ x ∈ compactUpTo d m, ∃ j, j < m ∧ x = d[j]!) ∧ (∀ j, j < m → d[j]! ∈ compactUpTo d m)
  | 0, _ => ⟨by simp [compactUpTo], by simp [compactUpTo], fun j hj => absurd hj (Nat.not_lt_zero _)⟩
  | m + 1, hm => by
    obtain ⟨h1, h2, h3⟩ := once_upto d hs m (by omega)
    rw [compactUpTo_succ]
    by_cases hk : keeps d m = true
    · rw [if_pos hk]
      refine ⟨List.pairwise_append.2 ⟨h1, by simp, fun x hx y hy => ?_⟩, fun x hx => ?_, fun j hj => ?_⟩
      · obtain ⟨j, hj, rfl⟩ := h2 x hx
        obtain rfl : y = d[m]! := by simpa using hy
        have h4 := hs j m hj (by omega)
        rcases Nat.lt_or_ge (j + 1) m with h5 | h5
        · have h6 := hs j (m - 1) (by omega) (by omega)
          have h7 := hs (m - 1) m (by omega) (by omega)
          unfold keeps at hk
          have hk := of_decide_eq_true hk
          omega
        · obtain rfl : j = m - 1 := by omega
          unfold keeps at hk
          have hk := of_decide_eq_true hk
          omega
      · rcases List.mem_append.1 hx with h | h
        · obtain ⟨j, hj, e⟩ := h2 x h
          exact ⟨j, by omega, e⟩
        · exact ⟨m, by omega, by simpa using h⟩
      · by_cases hjm : j = m
        · subst hjm; simp
        · exact List.mem_append_left _ (h3 j (by omega))
    · rw [if_neg hk, List.append_nil]
      refine ⟨h1, fun x hx => ?_, fun j hj => ?_⟩
      · obtain ⟨j, hj, e⟩ := h2 x hx
        exact ⟨j, by omega, e⟩
      · by_cases hjm : j = m
        · subst hjm
          unfold keeps at hk
          have hk : ¬ (j = 0 ∨ d[j]! ≠ d[j - 1]!) := fun h => hk (decide_eq_true h)
          have e : d[j]! = d[j - 1]! := by
            by_cases e : d[j]! = d[j - 1]!
            · exact e
            · exact absurd (.inr e) hk
          rw [e]
          exact h3 (j - 1) (by omega)
        · exact h3 j (by omega)
theorem sorted_le {d : Array Int} (h : SortedIn ltInt 0 d.size d) : ∀ i j, i < j → j < d.size → d[i]! ≤ d[j]! := fun i j hij hj => by
  have := h i j (Nat.zero_le _) hij hj
  unfold ltInt at this
  have := of_decide_eq_false this
  omega

/-! ### slices.Compact -/
theorem compact_any (b off cap : Nat) (d : Array Int) (w : World) (hH : Holds (Value.int .u16) w b off d) (hb : b < w.heap.size) (hN : d.size ≤ 100000) (hcap : d.size ≤ cap) (hs : ∀ i j, i < j → j < d.size → d[i]! ≤ d[j]!) :
    Calls Try.prog 72 #[.slice (some ⟨b, off, none⟩) d.size cap] w fun e w' => ∃ (l : List Int) (d' : Array Int), e = .returned (.slice (some ⟨b, off, none⟩) l.length cap) ∧ Sd w b off d d' w' ∧ l.length ≤ d.size ∧
      (∀ k (hk : k < l.length), d'[k]! = l[k]) ∧ l.Pairwise (· < ·) ∧ ∀ x, x ∈ l ↔ ∃ j, j < d.size ∧ x = d[j]! := by
  have c := AnyE.slices_Compact Try.compL (Value.int .u16) (fun _ => rfl) (EqlAt.intD _ _ _) (NeqAt.intD _ _ _) (0 : Int) Try.zeroValue24 b off cap d w hH (by omega) hcap
  refine Calls.mono c ?_
  rintro e w' ⟨rfl, q, hw⟩
  obtain ⟨h1, h2, h3⟩ := once_upto d hs d.size (Nat.le_refl _)
  have hlen : (compactUpTo d d.size).length ≤ d.size := by
    unfold compactUpTo
    rw [List.length_map]
    exact Nat.le_trans (List.length_filter_le _ _) (by simp)
  refine ⟨compactUpTo d d.size, _, rfl, ⟨hH, hb, ?_, q, #[], by rw [grow_empty]; exact hw⟩, hlen, fun k hk => ?_, h1, fun x => ⟨h2 x, fun ⟨j, hj, e⟩ => by rw [e]; exact h3 j hj⟩⟩
  · simp; omega
  · rw [getElem!_pos _ k (by simp; omega)]
    simp [List.getElem_append_left hk]
theorem compact_nil (w : World) : Calls Try.prog 72 #[.slice none 0 0] w fun e w' => e = .returned (.slice none 0 0) ∧ w' = w := by
  go_enter Try.func72, Try.ntmps72
  go_wp2
  refine bodyPost_ret (v := .slice none 0 0) (by simp [results, Try.results72, go_sem]) rfl ⟨rfl, rfl⟩

/-! ### slices.Sort -/
theorem sort_any (b off cap : Nat) (N : Nat) (d : Array Int) (w : World) (hH : Holds (Value.int .u16) w b off d) (hb : b < w.heap.size) (hd : d.size = N) (hN : N ≤ 100000) :
    Calls Try.prog 71 #[.slice (some ⟨b, off, none⟩) N cap] w fun e w' => e = .returned (.tuple #[]) ∧ ∃ d', PermIn 0 N d d' ∧ SortedIn ltInt 0 N d' ∧ Sd w b off d d' w' := by
  have c1 := len66 (N : Int) w (by omega) (by omega)
  rw [Int.toNat_natCast] at c1
  have hk : Lib.bitLen N ≤ 64 := Lib.bitLen_le N 64 (by decide) (by omega)
  generalize Lib.bitLen N = k at *
  have c2 := pdq_any (N + 1) b off cap 0 N k N d w (by omega) hH hb (Nat.zero_le _) (Nat.le_refl _) hd hN hk (.inl rfl)
  clear hH
  go_enter Try.func71, Try.ntmps71
  go_wp2_with fail
  refine c1.mono ?_
  rintro e w1 ⟨rfl, hw⟩
  subst hw
  clear c1
  go_wp2_with fail
  refine c2.mono ?_
  rintro e w2 ⟨rfl, d', h1, h2, h3⟩
  have H := hid (And.intro h1 (And.intro h2 h3))
  clear c2 h1 h2 h3
  go_wp2
  go_end0
  exact ⟨rfl, d', H.out⟩
theorem ins_nil (w : World) : Calls Try.prog 94 #[.slice none 0 0, .int .i64 0, .int .i64 0] w fun e w' => e = .returned (.tuple #[]) ∧ w' = w := by
  go_enter Try.func94, Try.ntmps94
  go_wp2
  go_loopw [6] (fun vi wr => vi = .int .i64 1 ∧ wr = w) (fun vi _ => 0)
  case atStart => exact ⟨rfl, rfl⟩
  case round =>
    obtain ⟨rfl, hw⟩ := hrel
    go_wp2
    go_end0
    exact ⟨rfl, rfl⟩
theorem pdq_nil (k : Int) (w : World) : Calls Try.prog 86 #[.slice none 0 0, .int .i64 0, .int .i64 0, .int .i64 k] w fun e w' => e = .returned (.tuple #[]) ∧ w' = w := by
  go_enter Try.func86, Try.ntmps86
  go_wp2
  go_loopw [1, 2, 3, 8, 9] (fun v1 v2 v3 v8 v9 wr => v1 = .int .i64 0 ∧ v2 = .int .i64 0 ∧ v3 = .int .i64 k ∧ v8 = .bool true ∧ v9 = .bool true ∧ wr = w) (fun _ _ _ _ _ _ => 0)
  case atStart => exact ⟨rfl, rfl, rfl, rfl, rfl, rfl⟩
  case round =>
    obtain ⟨rfl, rfl, rfl, rfl, rfl, hw⟩ := hrel
    go_wp2_with (go_at_call 94; refine (ins_nil _).mono ?_; rintro e w1 ⟨rfl, hw1⟩)
    refine bodyPost_ret (v := .tuple #[]) (by simp [results, Try.results86, go_sem]) rfl ⟨rfl, ?_⟩
    first | rfl | exact hw1
theorem sort_none (w : World) : Calls Try.prog 71 #[.slice none 0 0] w fun e w' => e = .returned (.tuple #[]) ∧ w' = w := by
  have c1 := len66 0 w (by omega) (by omega)
  go_enter Try.func71, Try.ntmps71
  go_wp2_with fail
  refine c1.mono ?_
  rintro e w1 ⟨rfl, hw⟩
  subst hw
  clear c1
  go_wp2_with fail
  refine (pdq_nil _ _).mono ?_
  rintro e w2 ⟨rfl, hw⟩
  subst hw
  go_wp2
  go_end0
  exact ⟨rfl, rfl⟩
end Go.Proofs.Ytipiepcbgjceaaa
