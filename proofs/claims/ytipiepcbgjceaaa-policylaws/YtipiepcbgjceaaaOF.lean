/- hear fills a book; policies of up to 1000 nodes. -/
import Derived.Test.YtipiepcbgjceaaaOE
import Derived.Deep.CutRange
set_option linter.unusedVariables false
set_option linter.unusedSimpArgs false
namespace Go.Proofs.Ytipiepcbgjceaaa
open Go.RowKit Go.Joins Go.Maps

set_option maxRecDepth 100000 in
set_option maxHeartbeats 8000000 in
theorem hear_any {B : Nat} {G : Nat → Option Pl} {X : Nat → Prop} {w0 : World} (hI : Inv B G X w0) (lo g M : Nat) (hg0 : w0.heap.size ≤ g) : ∀ (m : Nat) (T : Pl) (b : Nat) (sv : Nat → Value) (sl : Nat → List Int) (w : World), sizeP T ≤ m → m ≤ 1000 → GoodT T → G b = some T →
    (∀ f, f < 8 → (sl f).length + sizeP T ≤ 5000) → BkS lo g M sv sl w → Below w0.heap.size w0 w → Calls Try.prog 70 #[.pointer (some ⟨g, 0, none⟩), .pointer (some ⟨b, 0, none⟩)] w fun e w' => HearEnd lo g M sl T w e w'
  | 0, T, b, sv, sl, w, h, _, _, _, _, _, _ => absurd (size_pos T) (by omega)
  | m + 1, .mk op f n kids, b, sv, sl, w, hs, hm, hgood, hG, hlen, hB, hbel => by
    have IH := hid fun T b sv sl w h => hear_any hI lo g M hg0 m T b sv sl w h (by omega)
    obtain ⟨i0, hi, hz0, hz1, hz2⟩ := info_parts info24
    obtain ⟨kv, bk, hrow0, sa, sc, rfl, hk⟩ := hI.node hG
    have hrow : w.heap[b]? = some (nobjN op f n (.slice sa kids.length sc) bk) := (hbel.block b (heap_lt hrow0)).trans hrow0
    obtain ⟨r0, r1, r2, r3, r4⟩ := row5 hrow
    have HK := hid hk
    have HBel := hid hbel
    have HB := hid hB
    have HR0 := hid hrow0
    have HGood := hid hgood
    rw [sizeP_mk] at hs
    have HLen := hid hlen
    obtain ⟨R, hR⟩ : ∃ R, kids.length = R := ⟨_, rfl⟩
    have HR := hid hR
    have hRl := len_le kids
    rw [hR] at r3 hRl
    have hRm : R ≤ 1000 := by omega
    clear hk hbel hB hrow0 hrow hgood hlen hR hRl
    go_enter Try.func70, Try.ntmps70
    go_upto_region 0 with fail
    go_cut [17] from 6 (fun s17 wx => s17 = .bool (decide (op = 2 ∨ op = 5)) ∧ wx = w)
    case first =>
      by_cases h2 : op = 2
      · subst h2
        go_wp2_with fail
        go_meet
        exact ⟨by simp, rfl⟩
      · have d2 : (op == 2) = false := by simp [h2]
        by_cases h5 : op = 5
        · subst h5
          go_wp2_with fail
          go_meet
          exact ⟨by simp, rfl⟩
        · have d5 : (op == 5) = false := by simp [h5]
          go_wp2_with fail
          go_meet
          exact ⟨by simp [h2, h5], rfl⟩
    case rest =>
      obtain ⟨rfl, hwc⟩ := hcut
      have hwc := hwc.symm
      subst hwc
      go_upto_if 17 with fail
      go_cut [] from 6 (fun wx => ∃ sv1, Hid (BkS lo g M sv1 (fun F => sl F ++ (if (op = 2 ∨ op = 5) ∧ f = (F : Int) then [n] else [])) wx) ∧ Hid (Below g w wx))
      case first =>
        by_cases hop : op = 2 ∨ op = 5
        · rw [decide_eq_true hop]
          have hsf := says_form _ f n HGood.out.form HGood.out.ok (by rw [Says]; exact .inl ⟨hop, rfl, rfl⟩)
          obtain ⟨F, rfl⟩ : ∃ F : Nat, f = (F : Int) := ⟨f.toNat, by omega⟩
          have hF : F < 8 := by omega
          have hnb : 0 ≤ n ∧ n ≤ 65535 := hsf.2
          clear hsf
          have hl5 := HLen.out F hF
          obtain ⟨Z, hZ⟩ : ∃ Z, Value.int .u16 n = Z := ⟨_, rfl⟩
          obtain ⟨Ln, hLn⟩ : ∃ Ln, (sl F).length = Ln := ⟨_, rfl⟩
          have HLn := hid hLn
          have hL5 : Ln ≤ 5000 := by omega
          have hown := HB.out.own F hF
          obtain ⟨kb, kc, hkv⟩ : ∃ kb kc, sv F = .slice kb Ln kc := by
            obtain ⟨u, v, e⟩ := own_shape hown
            exact ⟨u, v, by rw [← hLn]; exact e⟩
          have HKV := hid hkv
          have hcF : w.cell? ⟨g, F, none⟩ = some (.slice kb Ln kc) := by
            rw [cell_of_row _ _ _ _ _ _ HB.out.row, bcells_get _ _ _ _ hF, hkv]
          have hfF : w.frozen? ⟨g, F, none⟩ = false := frozen_of_row _ _ _ _ _ HB.out.row
          rw [hkv, hLn] at hown
          clear hkv hLn hl5
          have hgl := HB.out.glo
          have hlow := HB.out.hi
          have hrb := heap_lt HR0.out
          have hbs := HBel.out.size
          have hgs := heap_lt HB.out.row
          have hnewc : ∀ (W : World) (v : Value) (t : TypeId), ∀ j u, [v][j]? = some u → (W.alloc (.cells #[v] t)).cell? ((⟨W.heap.size, 0, none⟩ : Addr).add j) = some u := fun W v t => cell_one_new W _ _
          have HNew := hid hnewc
          have halo : ∀ (o : Obj) (c k : Nat) (v : Value), w.cell? ⟨c, k, none⟩ = some v → (w.alloc o).cell? ⟨c, k, none⟩ = some v := fun o c k v h => Lib.cell?_alloc_some _ h
          have q0 := halo (.cells #[.int .u16 n] 24) _ _ _ r1
          have q1 := halo (.cells #[.int .u16 n] 24) _ _ _ hcF
          have ix := ix98 g F hF
          have HF := hid hF
          have hra : ∀ o : Obj, (w.alloc o).heap[g]? = some (.cells (bcells sv (fun _ => 0) M) 101) := fun o => (Below.heap_alloc w o _ hgs).trans HB.out.row
          have HRA := hid hra
          have hrb : ∀ o : Obj, (w.alloc o).heap[b]? = some (nobjN op (F : Int) n (.slice sa kids.length sc) bk) := fun o => (Below.heap_alloc w o _ (by omega)).trans ((HBel.out.block b hrb).trans HR0.out)
          have HRB := hid hrb
          have hol : ∀ c, (Value.slice kb Ln kc).ownBlock = some c → lo ≤ c ∧ c < w.heap.size := fun c e => hown.lt c e
          have HOL := hid hol
          clear hra hol hrb
          have HOP := hid hop
          clear hnewc halo hZ hop hnb
          go_wp2_with fail
          go_region_law (first
            | (refine step_append_lies _ (by rfl) _ _ _ (by rfl) lo 24 i0 (.int .u16 0) 1 2 Try.underlying23 hi hz0 hz1 hz2 rfl (by decide) (.slice kb Ln kc) Ln _ (by rfl) ((hown.drew).alloc _) _ 1 1 [.int .u16 n] (by rfl) rfl (HNew.out _ _ _) (fun x hx => by simp at hx; rw [hx]; rfl) (by decide) (by unfold maxLen; omega) (by omega) (by simp; omega) (w.heap.size + 1) (by simp) ?_; intro g4 cap4 w4 hown4 hgrow4 hloc4 hlt4; have hrow4 := grown_row hgrow4 (HRA.out _) (fun e => by have := (HOL.out _ e.symm).1; omega); have f4 : w4.frozen? ⟨g, F, none⟩ = false := frozen_of_row _ _ _ _ _ hrow4; have c4 : w4.cell? ⟨g, F, none⟩ = some (sv F) := (by rw [cell_of_row _ _ _ _ _ _ hrow4, bcells_get _ _ _ _ HF.out]); (have hrb4 := grown_row hgrow4 (HRB.out _) (fun e => by have := (HOL.out _ e.symm).1; omega); obtain ⟨t0, t1, t2, t3, t4⟩ := row5 hrb4)))
          all_goals
            have hb4 : Below w.heap.size w (w.alloc (.cells #[.int .u16 n] 24)).drew := below_drewN ((Below.refl _ w).alloc (Nat.le_refl _) _) 1
            have HS4 : Hid (BkS lo g M (upd F (.slice (some ⟨g4, 0, none⟩) (Ln + 1) cap4) sv) (fun F' => sl F' ++ (if (op = 2 ∨ op = 5) ∧ (F : Int) = (F' : Int) then [n] else [])) (w4.setCell ⟨g, F, none⟩ (.slice (some ⟨g4, 0, none⟩) (Ln + 1) cap4))) := by
              have e : (fun F' : Nat => sl F' ++ (if (op = 2 ∨ op = 5) ∧ (F : Int) = (F' : Int) then [n] else [])) = fun F' => sl F' ++ (if F' = F then [n] else []) := funext fun F' => by
                congr 1
                by_cases e : F' = F
                · rw [if_pos e, if_pos ⟨HOP.out, by omega⟩]
                · rw [if_neg e, if_neg (fun h => e (by omega))]
              rw [e, ← HLn.out]
              rw [← HLn.out] at hown4
              exact (HB.out.below hb4).step HF.out hown4 (by rw [HKV.out]; exact hgrow4) (by rw [HKV.out]; rcases hloc4 with e | e; exact .inl e; exact .inr (by simp; omega))
            have HW4 : Hid (Below g w (w4.setCell ⟨g, F, none⟩ (.slice (some ⟨g4, 0, none⟩) (Ln + 1) cap4))) := app_below hb4 hgl hgrow4 (fun c e => (HOL.out c e).1) (Nat.le_of_lt hgs)
            clear hown4 hgrow4 hloc4 hlt4 hrow4 f4 c4 hrb4 t0 t1 t2 t3 t4 hb4
            go_wp2_with fail
            go_meet
            case rel => exact ⟨_, HS4, HW4⟩
        · rw [decide_eq_false hop]
          go_wp2_with fail
          go_meet
          case rel =>
            refine ⟨sv, ?_, Below.refl _ _⟩
            have e : (fun F : Nat => sl F ++ (if (op = 2 ∨ op = 5) ∧ f = (F : Int) then [n] else [])) = sl := funext fun F => by rw [if_neg (fun h => hop h.1), List.append_nil]
            rw [e]
            exact HB.out
      case rest =>
        obtain ⟨sv1, HB1, HW1⟩ := hcut
        clear r0 r1 r2 r3 r4
        have hb0 := heap_lt HR0.out
        have hbs := HBel.out.size
        have hrowc : wc.heap[b]? = some (nobjN op f n (.slice sa R sc) bk) := by
          rw [HW1.out.block b (by omega), HBel.out.block b hb0, ← HR.out]
          exact HR0.out
        obtain ⟨r0, r1, r2, r3, r4⟩ := row5 hrowc
        obtain ⟨sl1, hsl1⟩ : ∃ sl1 : Nat → List Int, (fun F : Nat => sl F ++ (if (op = 2 ∨ op = 5) ∧ f = (F : Int) then [n] else [])) = sl1 := ⟨_, rfl⟩
        have HSL := hid hsl1
        rw [hsl1] at HB1
        clear hsl1 hrowc
        go_wp2
        go_loopw [46] (fun i wr => ∃ (k : Nat) (sv2 : Nat → Value), k ≤ R ∧ i = .int .i64 (k : Int) ∧ Hid (BkS lo g M sv2 (fun F => sl1 F ++ saidL.saidK (kids.take k) F) wr) ∧ Hid (Below g w wr)) (fun i _ => R - (intOf i).toNat)
        case atStart => exact ⟨0, sv1, Nat.zero_le _, rfl, by simpa [saidL.saidK] using HB1, HW1⟩
        case round =>
          obtain ⟨k, sv2, hkR, rfl, HB2, HW2⟩ := hrel
          clear HB1 HW1
          by_cases hlt : k < R
          · have hlt' : k < kids.length := by rw [HR.out]; exact hlt
            obtain ⟨b', off, c, rfl, hb', ht', hc', hG'⟩ := HK.out k hlt'
            have a0 : wr.cell? ⟨b', off + k, none⟩ = some (.pointer (some ⟨c, 0, none⟩)) := by
              rw [World.cell?_of_block (w := w) (w' := wr) (HW2.out.block b' (by omega)), World.cell?_of_block (w := w0) (w' := w) (HBel.out.block b' hb')]
              exact hc'
            have hsz := size_get kids k hlt'
            have hst := sizeL_cut kids k hlt'
            have hb0r : Below w0.heap.size w0 wr := HBel.out.trans (HW2.out.mono hg0)
            have cS := IH.out kids[k] c sv2 _ wr (by omega) (HGood.out.kid k hlt') hG' (fun F hF => by
              have h1 := HLen.out F hF
              have h2 := said_len.len (kids.take k) F
              rw [sizeP_mk] at h1
              rw [← HSL.out]
              simp only [List.length_append]
              split
              · simp only [List.length_singleton]; omega
              · simp only [List.length_nil]; omega) HB2.out hb0r
            have HSt := hid (saidK_step · kids k hlt')
            clear hsz hst hb0r hG' hc' ht' hb'
            go_wp2_with fail
            refine cS.mono ?_
            rintro e w1 ⟨rfl, sv3, hB3, hW3⟩
            have HB3 : Hid (BkS lo g M sv3 (fun F => sl1 F ++ saidL.saidK (kids.take (k + 1)) F) w1) := by
              have e : (fun F => sl1 F ++ saidL.saidK (kids.take (k + 1)) F) = fun F => sl1 F ++ saidL.saidK (kids.take k) F ++ saidL kids[k] F := funext fun F => by rw [HSt.out F, List.append_assoc]
              rw [e]
              exact hB3
            have HW3 : Hid (Below g w w1) := HW2.out.trans hW3
            clear cS hB3 hW3
            go_wp2
            go_roundw
            case rel => exact ⟨k + 1, sv3, by omega, by go_num, HB3, HW3⟩
            case measure => simp [intOf]; omega
          · obtain rfl : k = R := by omega
            go_wp2
            go_end0
            refine ⟨rfl, sv2, ?_, HW2.out⟩
            have e : (fun F => sl F ++ saidL (.mk op f n kids) F) = fun F => sl1 F ++ saidL.saidK (kids.take k) F := funext fun F => by
              rw [← HSL.out, saidL, List.take_of_length_le (by rw [HR.out]; exact Nat.le_refl _), List.append_assoc]
            rw [e]
            exact HB2.out
end Go.Proofs.Ytipiepcbgjceaaa
