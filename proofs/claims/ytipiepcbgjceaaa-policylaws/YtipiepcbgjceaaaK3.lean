/- What the document's Depth and Size answer; policies of up to 100000 nodes. -/
import Derived.Test.YtipiepcbgjceaaaK1
set_option linter.unusedVariables false
set_option linter.unusedSimpArgs false
namespace Go.Proofs.Ytipiepcbgjceaaa
open Go.RowKit Go.Joins

set_option maxRecDepth 100000 in
set_option maxHeartbeats 4000000 in
theorem rsize_any {P : Nat → Prop} : ∀ (m : Nat) (T : Pl) (x : Nd) (w : World), sizeP T ≤ m → m ≤ 100000 → PolAt P w T x → Calls Try.prog 30 #[nv x] w fun e w' => e = .returned (.int .i64 (sizeP T : Int)) ∧ Below w.heap.size w w'
  | 0, T, x, w, h, _, _ => absurd (size_pos T) (by omega)
  | m + 1, .mk op f n kids, x, w, hs, hm, hp => by
    obtain ⟨sa, sc, rfl, hk⟩ := hp.open
    have ih := fun T x w h => rsize_any (P := P) m T x w h (by omega)
    rw [sizeP_mk] at hs ⊢
    have hl := len_le kids
    have HK : Hid _ := hk
    have IH : Hid _ := ih
    clear hk ih hp
    go_enter Try.func30, Try.ntmps30
    go_wp2
    go_loopw [3, 4] (fun s i wr => ∃ k : Nat, k ≤ kids.length ∧ i = .int .i64 (k : Int) ∧ s = .int .i64 ((sizeP.sizeL (kids.take k) + 1 : Nat) : Int) ∧ Hid (Below w.heap.size w wr) ∧ wr.heap[w.heap.size]? = some (pobj ⟨op, f, n, .slice sa kids.length sc⟩)) (fun _ i _ => kids.length - (intOf i).toNat)
    case atStart => exact ⟨0, Nat.zero_le _, rfl, by simp [sizeP.sizeL], (Below.refl _ w).alloc (Nat.le_refl _) _, heap_alloc_new w _⟩
    case round =>
      obtain ⟨k, hkl, rfl, rfl, HB, hrow⟩ := hrel
      obtain ⟨r0, r1, r2, r3⟩ := row4 hrow
      have HRow : Hid (wr.heap[w.heap.size]? = some (pobj ⟨op, f, n, .slice sa kids.length sc⟩)) := hrow
      clear hrow
      by_cases hlt : k < kids.length
      · obtain ⟨b, off, sa2, n2, sc2, y0, y1, y2, rfl, hb, ha, hp⟩ := HK.out k hlt
        obtain ⟨a0, a1, a2, a3⟩ := ha.same (HB.out.block b hb)
        have hwr := HB.out.size
        have hsz := size_get kids k hlt
        have htk := sizeL_take kids k hlt
        have htl := take_le_size kids (k + 1)
        have cS := IH.out kids[k] ⟨y0, y1, y2, .slice sa2 n2 sc2⟩ wr (by omega) (hp.below HB.out)
        have HT : Hid (sizeP.sizeL (kids.take (k + 1)) = sizeP.sizeL (kids.take k) + sizeP kids[k]) := htk
        have hz : sizeP.sizeL (kids.take k) + sizeP kids[k] ≤ 100000 := by omega
        generalize sizeP kids[k] = z at *
        generalize sizeP.sizeL (kids.take k) = y at *
        clear hp ha htk htl hsz
        go_wp2_with fail
        refine cS.mono ?_
        rintro e w1 ⟨rfl, hb1⟩
        have HB1 : Hid (Below w.heap.size w w1) := HB.out.trans (hb1.mono hwr)
        have HR1 : Hid (w1.heap[w.heap.size]? = some _) := (hb1.block _ (heap_lt HRow.out)).trans HRow.out
        clear hb1 cS
        go_wp2
        go_roundw
        case rel => exact ⟨k + 1, by omega, by go_num, by rw [HT.out]; go_num, HB1, HR1.out⟩
        case measure => simp [intOf]; omega
      · obtain rfl : k = kids.length := by omega
        have HT : Hid (kids.take kids.length = kids) := List.take_length
        go_wp2
        go_ret
        exact ⟨by first | rfl | (rw [HT.out]; rfl), HB.out⟩
set_option maxRecDepth 100000 in
set_option maxHeartbeats 4000000 in
theorem rdepth_any {P : Nat → Prop} : ∀ (m : Nat) (T : Pl) (x : Nd) (w : World), sizeP T ≤ m → m ≤ 100000 → PolAt P w T x → Calls Try.prog 31 #[nv x] w fun e w' => e = .returned (.int .i64 (depthP T : Int)) ∧ Below w.heap.size w w'
  | 0, T, x, w, h, _, _ => absurd (size_pos T) (by omega)
  | m + 1, .mk op f n kids, x, w, hs, hm, hp => by
    obtain ⟨sa, sc, rfl, hk⟩ := hp.open
    have ih := fun T x w h => rdepth_any (P := P) m T x w h (by omega)
    rw [sizeP_mk] at hs
    rw [depthP_mk]
    have hdl := depth_le.depthL_le kids
    have hl := len_le kids
    have HK : Hid _ := hk
    have IH : Hid _ := ih
    clear hk ih hp
    go_enter Try.func31, Try.ntmps31
    go_wp2
    go_loopw [3, 4] (fun s i wr => ∃ k : Nat, k ≤ kids.length ∧ i = .int .i64 (k : Int) ∧ s = .int .i64 (depthP.depthL (kids.take k) : Int) ∧ Hid (Below w.heap.size w wr) ∧ wr.heap[w.heap.size]? = some (pobj ⟨op, f, n, .slice sa kids.length sc⟩)) (fun _ i _ => kids.length - (intOf i).toNat)
    case atStart => exact ⟨0, Nat.zero_le _, rfl, by simp [depthP.depthL], (Below.refl _ w).alloc (Nat.le_refl _) _, heap_alloc_new w _⟩
    case round =>
      obtain ⟨k, hkl, rfl, rfl, HB, hrow⟩ := hrel
      obtain ⟨r0, r1, r2, r3⟩ := row4 hrow
      have HRow : Hid (wr.heap[w.heap.size]? = some (pobj ⟨op, f, n, .slice sa kids.length sc⟩)) := hrow
      clear hrow
      by_cases hlt : k < kids.length
      · obtain ⟨b, off, sa2, n2, sc2, y0, y1, y2, rfl, hb, ha, hp⟩ := HK.out k hlt
        obtain ⟨a0, a1, a2, a3⟩ := ha.same (HB.out.block b hb)
        have hwr := HB.out.size
        have hsz := size_get kids k hlt
        have htk := depthL_take kids k hlt
        have htl := take_le_size kids k
        have hd1 := depth_le.depthL_le (kids.take k)
        have hd2 := depth_le kids[k]
        have cS := IH.out kids[k] ⟨y0, y1, y2, .slice sa2 n2 sc2⟩ wr (by omega) (hp.below HB.out)
        have HT : Hid (depthP.depthL (kids.take (k + 1)) = max (depthP.depthL (kids.take k)) (depthP kids[k])) := htk
        have hz : depthP kids[k] ≤ 100000 := by omega
        have hy : depthP.depthL (kids.take k) ≤ 100000 := by omega
        clear hp ha htk htl hsz hd1 hd2
        generalize depthP kids[k] = z at *
        generalize depthP.depthL (kids.take k) = y at *
        go_wp2_with fail
        refine cS.mono ?_
        rintro e w1 ⟨rfl, hb1⟩
        have HB1 : Hid (Below w.heap.size w w1) := HB.out.trans (hb1.mono hwr)
        have HR1 : Hid (w1.heap[w.heap.size]? = some _) := (hb1.block _ (heap_lt HRow.out)).trans HRow.out
        clear hb1 cS
        go_wp2
        go_roundw
        case rel => exact ⟨k + 1, by omega, by go_num, by rw [HT.out]; first | go_num | (simp; omega), HB1, HR1.out⟩
        case measure => simp [intOf]; omega
      · obtain rfl : k = kids.length := by omega
        have HT : Hid (kids.take kids.length = kids) := List.take_length
        go_wp2
        go_ret
        exact ⟨by first | rfl | (rw [HT.out]; rfl), HB.out⟩
end Go.Proofs.Ytipiepcbgjceaaa
/- What Predicate answers, the program's and the document's; policies of up to 100000 nodes. -/
set_option linter.unusedVariables false
set_option linter.unusedSimpArgs false
namespace Go.Proofs.Ytipiepcbgjceaaa
open Go.RowKit Go.Joins

theorem predP_mk (op f n : Int) (kids : List Pl) : predP (.mk op f n kids) = (opB op || (opM op && predP.predL kids)) := by rw [predP]
set_option maxRecDepth 100000 in
set_option maxHeartbeats 4000000 in
theorem pred_any {P : Nat → Prop} : ∀ (m : Nat) (T : Pl) (x : Nd) (w : World), sizeP T ≤ m → m ≤ 100000 → PolAt P w T x → Calls Try.prog 69 #[nv x] w fun e w' => e = .returned (.bool (predP T)) ∧ Below w.heap.size w w'
  | 0, T, x, w, h, _, _ => absurd (size_pos T) (by omega)
  | m + 1, .mk op f n kids, x, w, hs, hm, hp => by
    obtain ⟨sa, sc, rfl, hk⟩ := hp.open
    have ih := fun T x w h => pred_any (P := P) m T x w h (by omega)
    rw [sizeP_mk] at hs
    rw [predP_mk]
    have hl := len_le kids
    have HK : Hid _ := hk
    have IH : Hid _ := ih
    clear hk ih hp
    by_cases hB : opB op = true
    · rw [hB, Bool.true_or]
      unfold opB at hB
      simp only [Bool.or_eq_true, decide_eq_true_eq] at hB
      clear HK IH
      rcases hB with (((rfl | rfl) | rfl) | rfl) | rfl
      all_goals
        go_enter Try.func69, Try.ntmps69
        go_wp2
        go_ret
        exact ⟨rfl, (Below.refl _ w).alloc (Nat.le_refl _) _⟩
    · have hB2 : opB op = false := by simpa using hB
      rw [hB2, Bool.false_or]
      unfold opB at hB2
      simp only [Bool.or_eq_false_iff, decide_eq_false_iff_not] at hB2
      obtain ⟨⟨⟨⟨n0, n1⟩, n2⟩, n3⟩, n4⟩ := hB2
      have d0 : (op == 0) = false := by simpa using n0
      have d1 : (op == 1) = false := by simpa using n1
      have d2 : (op == 2) = false := by simpa using n2
      have d3 : (op == 3) = false := by simpa using n3
      have d4 : (op == 4) = false := by simpa using n4
      clear hB
      by_cases hM : opM op = true
      · rw [hM, Bool.true_and]
        unfold opM at hM
        simp only [Bool.or_eq_true, decide_eq_true_eq] at hM
        clear n0 n1 n2 n3 n4 d0 d1 d2 d3 d4
        rcases hM with rfl | rfl
        all_goals
          go_enter Try.func69, Try.ntmps69
          go_wp2
          go_loopw [19] (fun i wr => ∃ k : Nat, k ≤ kids.length ∧ i = .int .i64 (k : Int) ∧ Hid (predP.predL (kids.take k) = true) ∧ Hid (Below w.heap.size w wr)) (fun i _ => kids.length - (intOf i).toNat)
          case atStart => exact ⟨0, Nat.zero_le _, rfl, by show _ = _; simp [predP.predL], (Below.refl _ w).alloc (Nat.le_refl _) _⟩
          case round =>
            obtain ⟨k, hkl, rfl, HT, HB⟩ := hrel
            by_cases hlt : k < kids.length
            · obtain ⟨b, off, sa2, n2, sc2, y0, y1, y2, rfl, hb, ha, hp⟩ := HK.out k hlt
              obtain ⟨a0, a1, a2, a3⟩ := ha.same (HB.out.block b hb)
              have hwr := HB.out.size
              have hsz := size_get kids k hlt
              have htk := predL_take kids k hlt
              rw [HT.out, Bool.true_and] at htk
              have cS := IH.out kids[k] ⟨y0, y1, y2, .slice sa2 n2 sc2⟩ (wr.alloc (pobj ⟨y0, y1, y2, .slice sa2 n2 sc2⟩)) (by omega) ((hp.below HB.out).below ((Below.refl _ _).alloc (Nat.le_refl _) _))
              have HP : Hid (predP kids[k] = false → predP.predL kids = false) := predL_false kids k hlt
              clear hp ha hsz
              cases hpk : predP kids[k] with
              | true =>
                rw [hpk] at cS htk
                have HT2 : Hid (predP.predL (kids.take (k + 1)) = true) := htk
                clear hpk htk
                go_wp2_with fail
                refine cS.mono ?_
                rintro e w1 ⟨rfl, hb1⟩
                have HB1 : Hid (Below w.heap.size w w1) := (HB.out.alloc hwr _).trans (hb1.mono (by simp; omega))
                clear hb1 cS
                go_wp2
                go_roundw
                case rel => exact ⟨k + 1, by omega, by go_num, HT2, HB1⟩
                case measure => simp [intOf]; omega
              | false =>
                rw [hpk] at cS
                have HP2 : Hid (predP.predL kids = false) := HP.out hpk
                clear hpk htk
                go_wp2_with fail
                refine cS.mono ?_
                rintro e w1 ⟨rfl, hb1⟩
                have HB1 : Hid (Below w.heap.size w w1) := (HB.out.alloc hwr _).trans (hb1.mono (by simp; omega))
                clear hb1 cS
                go_wp2
                go_ret
                exact ⟨by rw [HP2.out]; rfl, HB1.out⟩
            · obtain rfl : k = kids.length := by omega
              have HT2 : Hid (predP.predL kids = true) := by have := HT.out; rwa [List.take_length] at this
              go_wp2
              go_ret
              exact ⟨by rw [HT2.out]; rfl, HB.out⟩
      · have hM2 : opM op = false := by simpa using hM
        rw [hM2, Bool.false_and]
        unfold opM at hM2
        simp only [Bool.or_eq_false_iff, decide_eq_false_iff_not] at hM2
        have d6 : (op == 6) = false := by simpa using hM2.1
        have d7 : (op == 7) = false := by simpa using hM2.2
        clear hM hM2 n0 n1 n2 n3 n4 HK IH
        go_enter Try.func69, Try.ntmps69
        go_wp2
        go_ret
        exact ⟨rfl, (Below.refl _ w).alloc (Nat.le_refl _) _⟩
end Go.Proofs.Ytipiepcbgjceaaa
/- What room, isWithin and isNodeFormed answer; policies of up to 100000 nodes. -/
set_option linter.unusedVariables false
set_option linter.unusedSimpArgs false
namespace Go.Proofs.Ytipiepcbgjceaaa
open Go.RowKit Go.Joins

theorem room_bd : ∀ (p : Pl) (n l : Int), 0 ≤ n → -1 ≤ roomP p n l ∧ roomP p n l ≤ n
  | .mk o f m k, n, l, hn => by
    rw [roomP]
    split
    · omega
    · have := roomL_bd k (n - 1) (l - 1) (by omega); omega
  where roomL_bd : ∀ (k : List Pl) (n l : Int), -1 ≤ n → -1 ≤ roomP.roomL k n l ∧ roomP.roomL k n l ≤ n
  | [], n, l, hn => by rw [roomP.roomL]; omega
  | p :: r, n, l, hn => by
    rw [roomP.roomL]
    split
    · omega
    · have h1 := room_bd p n l (by omega)
      have h2 := roomL_bd r (roomP p n l) l (by omega)
      omega
theorem drop_cons (kids : List Pl) (k : Nat) (h : k < kids.length) : kids.drop k = kids[k] :: kids.drop (k + 1) := List.drop_eq_getElem_cons h
theorem roomP_mk (o f m : Int) (k : List Pl) (n l : Int) : roomP (.mk o f m k) n l = if l = 0 then -1 else roomP.roomL k (n - 1) (l - 1) := by rw [roomP]
theorem roomL_cons (p : Pl) (r : List Pl) (n l : Int) : roomP.roomL (p :: r) n l = if n < 0 then n else roomP.roomL r (roomP p n l) l := by rw [roomP.roomL]

set_option maxRecDepth 100000 in
set_option maxHeartbeats 4000000 in
theorem room_any {P : Nat → Prop} : ∀ (m : Nat) (T : Pl) (x : Nd) (n l : Int) (w : World), sizeP T ≤ m → m ≤ 100000 → 0 ≤ n → n ≤ 1000 → 0 ≤ l → l ≤ 1000 → PolAt P w T x → Calls Try.prog 49 #[nv x, .int .i64 n, .int .i64 l] w fun e w' => e = .returned (.int .i64 (roomP T n l)) ∧ Below w.heap.size w w'
  | 0, T, x, n, l, w, h, _, _, _, _, _, _ => absurd (size_pos T) (by omega)
  | m + 1, .mk op f nn kids, x, n, l, w, hs, hm, hn0, hn1, hl0, hl1, hp => by
    obtain ⟨sa, sc, rfl, hk⟩ := hp.open
    have ih := fun T x n w h a b c => room_any (P := P) m T x n (l - 1) w h (by omega) a b c
    rw [sizeP_mk] at hs
    rw [roomP_mk]
    have hl := len_le kids
    have HK : Hid _ := hk
    have IH : Hid _ := ih
    clear hk ih hp
    by_cases h0 : l = 0
    · subst h0
      rw [if_pos rfl]
      clear HK IH
      go_enter Try.func49, Try.ntmps49
      go_wp2
      go_ret
      exact ⟨rfl, (Below.refl _ w).alloc (Nat.le_refl _) _⟩
    · rw [if_neg h0]
      have d0 : (l == 0) = false := by simpa using h0
      go_enter Try.func49, Try.ntmps49
      go_wp2
      go_loopw [1, 16] (fun s i wr => ∃ (k : Nat) (z : Int), k ≤ kids.length ∧ i = .int .i64 (k : Int) ∧ s = .int .i64 z ∧ -1 ≤ z ∧ z ≤ 1000 ∧ Hid (roomP.roomL (kids.drop k) z (l - 1) = roomP.roomL kids (n - 1) (l - 1)) ∧ Hid (Below w.heap.size w wr)) (fun _ i _ => kids.length - (intOf i).toNat)
      case atStart => exact ⟨0, n - 1, Nat.zero_le _, rfl, rfl, by omega, by omega, by show _ = _; rw [List.drop_zero], (Below.refl _ w).alloc (Nat.le_refl _) _⟩
      case round =>
        obtain ⟨k, z, hkl, rfl, rfl, hz0, hz1, HT, HB⟩ := hrel
        by_cases hlt : k < kids.length
        · obtain ⟨b, off, sa2, n2, sc2, y0, y1, y2, rfl, hb, ha, hp⟩ := HK.out k hlt
          obtain ⟨a0, a1, a2, a3⟩ := ha.same (HB.out.block b hb)
          have hwr := HB.out.size
          have hsz := size_get kids k hlt
          have htk := HT.out
          rw [drop_cons kids k hlt, roomL_cons] at htk
          by_cases hzn : z < 0
          · rw [if_pos hzn] at htk
            have HT2 : Hid (z = roomP.roomL kids (n - 1) (l - 1)) := htk
            clear hp ha htk hsz
            go_wp2
            go_ret
            exact ⟨by rw [← HT2.out]; rfl, HB.out.alloc hwr _⟩
          · rw [if_neg hzn] at htk
            have HT2 : Hid (roomP.roomL (kids.drop (k + 1)) (roomP kids[k] z (l - 1)) (l - 1) = roomP.roomL kids (n - 1) (l - 1)) := htk
            have cS := IH.out kids[k] ⟨y0, y1, y2, .slice sa2 n2 sc2⟩ z (wr.alloc (pobj ⟨y0, y1, y2, .slice sa2 n2 sc2⟩)) (by omega) (by omega) (by omega) (by omega) (by omega) ((hp.below HB.out).below ((Below.refl _ _).alloc (Nat.le_refl _) _))
            have hbd := room_bd kids[k] z (l - 1) (by omega)
            generalize roomP kids[k] z (l - 1) = z2 at *
            clear hp ha htk hsz
            go_wp2_with fail
            refine cS.mono ?_
            rintro e w1 ⟨rfl, hb1⟩
            have HB1 : Hid (Below w.heap.size w w1) := (HB.out.alloc hwr _).trans (hb1.mono (by simp; omega))
            clear hb1 cS
            go_wp2
            go_roundw
            case rel => exact ⟨k + 1, z2, by omega, by go_num, rfl, by omega, by omega, HT2, HB1⟩
            case measure => simp [intOf]; omega
        · obtain rfl : k = kids.length := by omega
          have HT2 : Hid (z = roomP.roomL kids (n - 1) (l - 1)) := by
            have := HT.out
            rw [List.drop_length, roomP.roomL] at this
            exact this
          go_wp2
          go_ret
          exact ⟨by rw [← HT2.out]; rfl, HB.out⟩

def inB (n a b : Int) : Bool := decide (a ≤ n) && decide (n < b)
theorem within_any (n a b : Int) (w : World) : Calls Try.prog 68 #[.int .i64 n, .int .i64 a, .int .i64 b] w fun e w' => e = .returned (.bool (inB n a b)) ∧ w' = w := by
  unfold inB
  by_cases h1 : a ≤ n
  · by_cases h2 : n < b
    · have d1 : decide (a ≤ n) = true := by simpa using h1
      have d2 : decide (n < b) = true := by simpa using h2
      rw [d1, d2]
      go_enter Try.func68, Try.ntmps68
      go_wp2
      go_ret
      exact ⟨rfl, rfl⟩
    · have d1 : decide (a ≤ n) = true := by simpa using h1
      have d2 : decide (n < b) = false := by simpa using h2
      rw [d1, d2]
      go_enter Try.func68, Try.ntmps68
      go_wp2
      go_ret
      exact ⟨rfl, rfl⟩
  · have d1 : decide (a ≤ n) = false := by simpa using h1
    rw [d1, Bool.false_and]
    go_enter Try.func68, Try.ntmps68
    go_wp2
    go_ret
    exact ⟨rfl, rfl⟩
end Go.Proofs.Ytipiepcbgjceaaa
