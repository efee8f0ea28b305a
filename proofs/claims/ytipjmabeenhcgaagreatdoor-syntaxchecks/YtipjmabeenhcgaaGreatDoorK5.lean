/- What room, isWithin and isNodeFormed answer; policies of up to 100000 nodes. -/
import Derived.Test.YtipjmabeenhcgaaGreatDoorK1
set_option linter.unusedVariables false
set_option linter.unusedSimpArgs false
namespace Go.Proofs.YtipjmabeenhcgaaGreatDoor
open Go.RowKit Go.Joins

theorem room_bd : ∀ (p : Pl) (n l : Int), 0 ≤ n → -1 ≤ roomP p n l ∧ roomP p n l ≤ n
  | .mk o f m k, n, l, hn => by
    rw [roomP]
    split
    · omega
    · have := roomL_bd k (n - 1) (l - 1) (by omega); omega
  where roomL_bd : ∀ (k : List Pl) (n l : Int), -1 ≤ n → -1 ≤ roomP.roomL k n l ∧ roomP.roomL k n l ≤ n
  | [], n, l, hn => by rw [roomP.roomL]; omega
  | p :: r, n, l, hn => by
    rw [roomP.roomL]
    split
    · omega
    · have h1 := room_bd p n l (by omega)
      have h2 := roomL_bd r (roomP p n l) l (by omega)
      omega
theorem drop_cons (kids : List Pl) (k : Nat) (h : k < kids.length) : kids.drop k = kids[k] :: kids.drop (k + 1) := List.drop_eq_getElem_cons h
theorem roomP_mk (o f m : Int) (k : List Pl) (n l : Int) : roomP (.mk o f m k) n l = if l = 0 then -1 else roomP.roomL k (n - 1) (l - 1) := by rw [roomP]
theorem roomL_cons (p : Pl) (r : List Pl) (n l : Int) : roomP.roomL (p :: r) n l = if n < 0 then n else roomP.roomL r (roomP p n l) l := by rw [roomP.roomL]

set_option maxRecDepth 100000 in
set_option maxHeartbeats 4000000 in
theorem room_any {P : Nat → Prop} : ∀ (m : Nat) (T : Pl) (x : Nd) (n l : Int) (w : World), sizeP T ≤ m → m ≤ 100000 → 0 ≤ n → n ≤ 1000 → 0 ≤ l → l ≤ 1000 → PolAt P w T x → Calls Tryz.prog 27 #[nv x, .int .i64 n, .int .i64 l] w fun e w' => e = .returned (.int .i64 (roomP T n l)) ∧ Below w.heap.size w w'
  | 0, T, x, n, l, w, h, _, _, _, _, _, _ => absurd (size_pos T) (by omega)
  | m + 1, .mk op f nn kids, x, n, l, w, hs, hm, hn0, hn1, hl0, hl1, hp => by
    obtain ⟨sa, sc, rfl, hk⟩ := hp.open
    have ih := fun T x n w h a b c => room_any (P := P) m T x n (l - 1) w h (by omega) a b c
    rw [sizeP_mk] at hs
    rw [roomP_mk]
    have hl := len_le kids
    have HK : Hid _ := hk
    have IH : Hid _ := ih
    clear hk ih hp
    by_cases h0 : l = 0
    · subst h0
      rw [if_pos rfl]
      clear HK IH
      go_enter Tryz.func27, Tryz.ntmps27
      go_wp2
      go_ret
      exact ⟨rfl, (Below.refl _ w).alloc (Nat.le_refl _) _⟩
    · rw [if_neg h0]
      have d0 : (l == 0) = false := by simpa using h0
      go_enter Tryz.func27, Tryz.ntmps27
      go_wp2
      go_loopw [1, 16] (fun s i wr => ∃ (k : Nat) (z : Int), k ≤ kids.length ∧ i = .int .i64 (k : Int) ∧ s = .int .i64 z ∧ -1 ≤ z ∧ z ≤ 1000 ∧ Hid (roomP.roomL (kids.drop k) z (l - 1) = roomP.roomL kids (n - 1) (l - 1)) ∧ Hid (Below w.heap.size w wr)) (fun _ i _ => kids.length - (intOf i).toNat)
      case atStart => exact ⟨0, n - 1, Nat.zero_le _, rfl, rfl, by omega, by omega, by show _ = _; rw [List.drop_zero], (Below.refl _ w).alloc (Nat.le_refl _) _⟩
      case round =>
        obtain ⟨k, z, hkl, rfl, rfl, hz0, hz1, HT, HB⟩ := hrel
        by_cases hlt : k < kids.length
        · obtain ⟨b, off, sa2, n2, sc2, y0, y1, y2, rfl, hb, ha, hp⟩ := HK.out k hlt
          obtain ⟨a0, a1, a2, a3⟩ := ha.same (HB.out.block b hb)
          have hwr := HB.out.size
          have hsz := size_get kids k hlt
          have htk := HT.out
          rw [drop_cons kids k hlt, roomL_cons] at htk
          by_cases hzn : z < 0
          · rw [if_pos hzn] at htk
            have HT2 : Hid (z = roomP.roomL kids (n - 1) (l - 1)) := htk
            clear hp ha htk hsz
            go_wp2
            go_ret
            exact ⟨by rw [← HT2.out]; rfl, HB.out.alloc hwr _⟩
          · rw [if_neg hzn] at htk
            have HT2 : Hid (roomP.roomL (kids.drop (k + 1)) (roomP kids[k] z (l - 1)) (l - 1) = roomP.roomL kids (n - 1) (l - 1)) := htk
            have cS := IH.out kids[k] ⟨y0, y1, y2, .slice sa2 n2 sc2⟩ z (wr.alloc (pobj ⟨y0, y1, y2, .slice sa2 n2 sc2⟩)) (by omega) (by omega) (by omega) (by omega) (by omega) ((hp.below HB.out).below ((Below.refl _ _).alloc (Nat.le_refl _) _))
            have hbd := room_bd kids[k] z (l - 1) (by omega)
            generalize roomP kids[k] z (l - 1) = z2 at *
            clear hp ha htk hsz
            go_wp2_with fail
            refine cS.mono ?_
            rintro e w1 ⟨rfl, hb1⟩
            have HB1 : Hid (Below w.heap.size w w1) := (HB.out.alloc hwr _).trans (hb1.mono (by simp; omega))
            clear hb1 cS
            go_wp2
            go_roundw
            case rel => exact ⟨k + 1, z2, by omega, by go_num, rfl, by omega, by omega, HT2, HB1⟩
            case measure => simp [intOf]; omega
        · obtain rfl : k = kids.length := by omega
          have HT2 : Hid (z = roomP.roomL kids (n - 1) (l - 1)) := by
            have := HT.out
            rw [List.drop_length, roomP.roomL] at this
            exact this
          go_wp2
          go_ret
          exact ⟨by rw [← HT2.out]; rfl, HB.out⟩

def inB (n a b : Int) : Bool := decide (a ≤ n) && decide (n < b)
theorem within_any (n a b : Int) (w : World) : Calls Tryz.prog 59 #[.int .i64 n, .int .i64 a, .int .i64 b] w fun e w' => e = .returned (.bool (inB n a b)) ∧ w' = w := by
  unfold inB
  by_cases h1 : a ≤ n
  · by_cases h2 : n < b
    · have d1 : decide (a ≤ n) = true := by simpa using h1
      have d2 : decide (n < b) = true := by simpa using h2
      rw [d1, d2]
      go_enter Tryz.func59, Tryz.ntmps59
      go_wp2
      go_ret
      exact ⟨rfl, rfl⟩
    · have d1 : decide (a ≤ n) = true := by simpa using h1
      have d2 : decide (n < b) = false := by simpa using h2
      rw [d1, d2]
      go_enter Tryz.func59, Tryz.ntmps59
      go_wp2
      go_ret
      exact ⟨rfl, rfl⟩
  · have d1 : decide (a ≤ n) = false := by simpa using h1
    rw [d1, Bool.false_and]
    go_enter Tryz.func59, Tryz.ntmps59
    go_wp2
    go_ret
    exact ⟨rfl, rfl⟩
end Go.Proofs.YtipjmabeenhcgaaGreatDoor
