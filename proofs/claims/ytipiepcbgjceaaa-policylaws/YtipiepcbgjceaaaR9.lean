/- What the law's Pile answers of steps that lie somewhere: a policy of up to 60 nodes, or none; no conditions but the numbers' sizes. -/
import Derived.Test.YtipiepcbgjceaaaR8
import Derived.Maps.AppendAt
import Derived.Deep.AppendLies
import Derived.Deep.RegionLaw
set_option linter.unusedVariables false
set_option linter.unusedSimpArgs false
namespace Go.Proofs.Ytipiepcbgjceaaa
open Go.RowKit Go.Joins

abbrev sobj (s : Sp) : Obj := .cells #[.int .i64 s.what, .int .i64 s.f, .int .u16 (s.n : Int), .int .u8 (s.k : Int)] 57
/-- What Pile answers: a policy that lies in blocks of its own, and whether it is one. -/
def PileEnd (w : World) (e : Ending) (w' : World) : Prop :=
  ∃ x b, e = .returned (.tuple #[nv x, .bool b]) ∧ Below w.heap.size w w' ∧ (∃ sa n sc, x.kv = .slice sa n sc) ∧ (b = true → ∃ p, sizeP p ≤ 60 ∧ okN p ∧ PolAt (fun b => w.heap.size < b) w' p x)
theorem PileEnd.mk {w : World} {e : Ending} {w' : World} {x : Nd} {b : Bool} (h1 : e = .returned (.tuple #[nv x, .bool b])) (h2 : Below w.heap.size w w') (h3 : ∃ sa n sc, x.kv = .slice sa n sc) (h4 : b = true → ∃ p, sizeP p ≤ 60 ∧ okN p ∧ PolAt (fun b => w.heap.size < b) w' p x) : PileEnd w e w' := ⟨x, b, h1, h2, h3, h4⟩
theorem below_set4 {B : Nat} {a w : World} {g : Nat} (h : Below B a w) (hg : B ≤ g) (y0 y1 y2 y3 : Value) : Below B a ((((w.setCell ⟨g, 0, none⟩ y0).setCell ⟨g, 1, none⟩ y1).setCell ⟨g, 2, none⟩ y2).setCell ⟨g, 3, none⟩ y3) :=
  (((h.setCell hg y0).setCell hg y1).setCell hg y2).setCell hg y3
set_option maxRecDepth 100000 in
set_option maxHeartbeats 8000000 in
theorem pile_any (l : List Sp) (v : Value) (w : World) (h : Sps w v l) (hmax : l.length ≤ 9223372036854775807) (hm : ∀ s ∈ l, s.n ≤ 65535 ∧ s.k ≤ 255) :
    Calls Try.prog 8 #[v] w fun e w' => PileEnd w e w' := by
  obtain ⟨sa, sc, rfl, hc⟩ := h
  have HC : Hid _ := hc
  have HM : Hid _ := hm
  have hb0 := (Below.refl _ w).alloc (Nat.le_refl _) nobj
  have hrow := heap_alloc_new w nobj
  obtain ⟨i0, hi, hz0, hz1, hz2⟩ := info_parts info29
  clear hc hm
  by_cases hl : 60 < l.length
  · have d : decide (60 < (l.length : Int)) = true := by simp; omega
    have HB0 : Hid _ := hb0
    have HR : Hid _ := hrow
    clear HC HM hb0 hrow hl
    generalize l.length = R at *
    go_enter Try.func8, Try.ntmps8
    go_wp2
    refine bodyPost_ret (v := .tuple #[nv ⟨0, 0, 0, .slice none 0 0⟩, .bool false]) ?_ rfl (PileEnd.mk (x := ⟨0, 0, 0, .slice none 0 0⟩) (b := false) rfl HB0.out ⟨_, _, _, rfl⟩ (fun h => by cases h))
    simp [results, Try.results8, go_sem]
  · have d : decide (60 < (l.length : Int)) = false := by simp; omega
    obtain ⟨R, eR⟩ : ∃ R, l.length = R := ⟨_, rfl⟩
    have HER : Hid (l.length = R) := eR
    rw [eR] at hl d hmax ⊢
    have HS0 : Hid (PSt w (w.heap.size + 1) [] (.slice none 0 0) [] (w.alloc nobj)) := ⟨World.ownsRow_nil _ _ _ _, ⟨rfl, fun i h => by simp at h⟩, hb0, by omega, by simp, hrow⟩
    clear eR hb0 hrow
    go_enter Try.func8, Try.ntmps8
    go_wp2_with fail
    go_loopw [4, 16] (fun pv i wr => ∃ (k : Nat) (T : List Pl) (xs : List Nd), k ≤ R ∧ i = .int .i64 (k : Int) ∧ sizeP.sizeL T ≤ k ∧ Hid (okN.okL T) ∧ Hid (PSt w (w.heap.size + 1) T pv xs wr)) (fun _ i _ => R - (intOf i).toNat)
    case atStart => exact ⟨0, [], [], Nat.zero_le _, rfl, by simp [sizeP.sizeL], by show okN.okL []; rw [okN.okL]; trivial, HS0⟩
    case round =>
      clear HS0
      obtain ⟨k, T, xs, hkl, rfl, hT, HOk, HS⟩ := hrel
      have hlen := HS.out.len
      have hlT := len_le T
      have hsiz := HS.out.siz
      by_cases hlt : k < R
      · have hlt' : k < l.length := by rw [HER.out]; exact hlt
        obtain ⟨b, off, rfl, hb, hcs⟩ := HC.out k hlt'
        have q : ∀ o, wr.cell? ⟨b, o, none⟩ = w.cell? ⟨b, o, none⟩ := fun o => HS.out.bel.cell (p := ⟨b, o, none⟩) hb
        obtain ⟨hsn, hsk⟩ := HM.out _ (List.getElem_mem hlt')
        have a0 := hcs 0 (by decide)
        have a1 := hcs 1 (by decide)
        have a2 := hcs 2 (by decide)
        have a3 := hcs 3 (by decide)
        rw [← q] at a0 a1 a2 a3
        generalize l[k] = s at *
        simp only [enc4s, Nat.add_zero, List.getElem?_cons_zero, List.getElem?_cons_succ] at a0 a1 a2 a3
        have HSx : Hid (PSt w (w.heap.size + 1) T u4 xs (wr.alloc (sobj s))) := HS.out.below ((Below.refl _ wr).alloc (Nat.le_refl _) _)
        obtain ⟨sv, scv, rfl⟩ := own_shape HSx.out.own
        clear hcs q
        obtain ⟨what, f, n, kk⟩ := s
        dsimp only at a0 a1 a2 a3 hsn hsk HSx
        by_cases h0 : what = 0
        · subst h0
          have hown := HSx.out.own
          go_wp2_with (at_builtin; go_loud (refine wpList_append_own_at _ rfl _ _ 28 rfl (w.heap.size + 1) 30 i0 (nv ⟨0, 0, 0, .slice none 0 0⟩) 4 48 Try.underlying28 hi hz0 hz1 hz2 rfl (by decide) (.slice sv xs.length scv) _ _ rfl (hown.alloc _) ⟨wr.heap.size + 1, 0, none⟩ 1 1 (enc4 ⟨0, 0, 0, .slice none 0 0⟩) rfl rfl (cell_new4 _ _ _ (by simp)) (enc4_one _ rfl) (by unfold maxLen; omega) (by omega) (by simp; omega) ?_; intro v4 w4 hown4 hgrow4 hnil4 hloc4))
          have HS4 : Hid (PSt w (w.heap.size + 1) (T ++ [.mk 0 0 0 []]) v4 (xs ++ [⟨0, 0, 0, .slice none 0 0⟩]) w4) := HSx.out.app ((Below.refl _ _).alloc (Nat.le_refl _) _) rfl (PolAt.leaf _ _ _ _ _) hown4 hgrow4 hloc4
          clear hown4 hgrow4 hnil4 hloc4 hown HSx HS
          go_wp2
          go_roundw
          case rel => exact ⟨k + 1, _, _, by omega, by go_num, by rw [size_leaf]; omega, okL_leaf T 0 0 0 (by omega) HOk.out, HS4⟩
          case measure => simp [intOf]; omega
        by_cases h1 : what = 1
        · subst h1
          have hown := HSx.out.own
          go_wp2_with (at_builtin; go_loud (refine wpList_append_own_at _ rfl _ _ 28 rfl (w.heap.size + 1) 30 i0 (nv ⟨0, 0, 0, .slice none 0 0⟩) 4 48 Try.underlying28 hi hz0 hz1 hz2 rfl (by decide) (.slice sv xs.length scv) _ _ rfl (hown.alloc _) ⟨wr.heap.size + 1, 0, none⟩ 1 1 (enc4 ⟨1, 0, 0, .slice none 0 0⟩) rfl rfl (cell_new4 _ _ _ (by simp)) (enc4_one _ rfl) (by unfold maxLen; omega) (by omega) (by simp; omega) ?_; intro v4 w4 hown4 hgrow4 hnil4 hloc4))
          have HS4 : Hid (PSt w (w.heap.size + 1) (T ++ [.mk 1 0 0 []]) v4 (xs ++ [⟨1, 0, 0, .slice none 0 0⟩]) w4) := HSx.out.app ((Below.refl _ _).alloc (Nat.le_refl _) _) rfl (PolAt.leaf _ _ _ _ _) hown4 hgrow4 hloc4
          clear hown4 hgrow4 hnil4 hloc4 hown HSx HS
          go_wp2
          go_roundw
          case rel => exact ⟨k + 1, _, _, by omega, by go_num, by rw [size_leaf]; omega, okL_leaf T 1 0 0 (by omega) HOk.out, HS4⟩
          case measure => simp [intOf]; omega
        by_cases h2 : what = 2
        · subst h2
          have hown := HSx.out.own
          go_wp2_with (at_builtin; go_loud (refine wpList_append_own_at _ rfl _ _ 28 rfl (w.heap.size + 1) 30 i0 (nv ⟨0, 0, 0, .slice none 0 0⟩) 4 48 Try.underlying28 hi hz0 hz1 hz2 rfl (by decide) (.slice sv xs.length scv) _ _ rfl (hown.alloc _) ⟨wr.heap.size + 1, 0, none⟩ 1 1 (enc4 ⟨2, f, (n : Int), .slice none 0 0⟩) rfl rfl (cell_new4 _ _ _ (by simp)) (enc4_one _ rfl) (by unfold maxLen; omega) (by omega) (by simp; omega) ?_; intro v4 w4 hown4 hgrow4 hnil4 hloc4))
          have HS4 : Hid (PSt w (w.heap.size + 1) (T ++ [.mk 2 f (n : Int) []]) v4 (xs ++ [⟨2, f, (n : Int), .slice none 0 0⟩]) w4) := HSx.out.app ((Below.refl _ _).alloc (Nat.le_refl _) _) rfl (PolAt.leaf _ _ _ _ _) hown4 hgrow4 hloc4
          clear hown4 hgrow4 hnil4 hloc4 hown HSx HS
          go_wp2
          go_roundw
          case rel => exact ⟨k + 1, _, _, by omega, by go_num, by rw [size_leaf]; omega, okL_leaf T 2 f n (by omega) HOk.out, HS4⟩
          case measure => simp [intOf]; omega
        by_cases h3 : what = 3
        · subst h3
          have hown := HSx.out.own
          go_wp2_with (at_builtin; go_loud (refine wpList_append_own_at _ rfl _ _ 28 rfl (w.heap.size + 1) 30 i0 (nv ⟨0, 0, 0, .slice none 0 0⟩) 4 48 Try.underlying28 hi hz0 hz1 hz2 rfl (by decide) (.slice sv xs.length scv) _ _ rfl (hown.alloc _) ⟨wr.heap.size + 1, 0, none⟩ 1 1 (enc4 ⟨3, f, (n : Int), .slice none 0 0⟩) rfl rfl (cell_new4 _ _ _ (by simp)) (enc4_one _ rfl) (by unfold maxLen; omega) (by omega) (by simp; omega) ?_; intro v4 w4 hown4 hgrow4 hnil4 hloc4))
          have HS4 : Hid (PSt w (w.heap.size + 1) (T ++ [.mk 3 f (n : Int) []]) v4 (xs ++ [⟨3, f, (n : Int), .slice none 0 0⟩]) w4) := HSx.out.app ((Below.refl _ _).alloc (Nat.le_refl _) _) rfl (PolAt.leaf _ _ _ _ _) hown4 hgrow4 hloc4
          clear hown4 hgrow4 hnil4 hloc4 hown HSx HS
          go_wp2
          go_roundw
          case rel => exact ⟨k + 1, _, _, by omega, by go_num, by rw [size_leaf]; omega, okL_leaf T 3 f n (by omega) HOk.out, HS4⟩
          case measure => simp [intOf]; omega
        by_cases h5 : what = 5
        · subst h5
          have hown := HSx.out.own
          go_wp2_with (at_builtin; go_loud (refine wpList_append_own_at _ rfl _ _ 28 rfl (w.heap.size + 1) 30 i0 (nv ⟨0, 0, 0, .slice none 0 0⟩) 4 48 Try.underlying28 hi hz0 hz1 hz2 rfl (by decide) (.slice sv xs.length scv) _ _ rfl (hown.alloc _) ⟨wr.heap.size + 1, 0, none⟩ 1 1 (enc4 ⟨5, f, (n : Int), .slice none 0 0⟩) rfl rfl (cell_new4 _ _ _ (by simp)) (enc4_one _ rfl) (by unfold maxLen; omega) (by omega) (by simp; omega) ?_; intro v4 w4 hown4 hgrow4 hnil4 hloc4))
          have HS4 : Hid (PSt w (w.heap.size + 1) (T ++ [.mk 5 f (n : Int) []]) v4 (xs ++ [⟨5, f, (n : Int), .slice none 0 0⟩]) w4) := HSx.out.app ((Below.refl _ _).alloc (Nat.le_refl _) _) rfl (PolAt.leaf _ _ _ _ _) hown4 hgrow4 hloc4
          clear hown4 hgrow4 hnil4 hloc4 hown HSx HS
          go_wp2
          go_roundw
          case rel => exact ⟨k + 1, _, _, by omega, by go_num, by rw [size_leaf]; omega, okL_leaf T 5 f n (by omega) HOk.out, HS4⟩
          case measure => simp [intOf]; omega
        by_cases h4 : what = 4
        · subst h4
          by_cases hx : xs.length = 0
          · have d0 : decide ((0 : Int) < (xs.length : Int)) = false := by simp only [decide_eq_false_iff_not]; omega
            go_wp2
            go_roundw
            case rel => exact ⟨k + 1, T, xs, by omega, by go_num, by omega, HOk, HSx⟩
            case measure => simp [intOf]; omega
          · obtain ⟨m, hN⟩ : ∃ m, xs.length = m + 1 := ⟨xs.length - 1, by omega⟩
            obtain ⟨g, rfl⟩ := own_some HSx.out.own (by omega)
            have d0 : decide ((0 : Int) < (xs.length : Int)) = true := by simp only [decide_eq_true_eq]; omega
            have hw1 : IntKind.i64.wrap ((xs.length : Int) - 1) = (m : Int) := by rw [wr64 _ (by omega) (by omega)]; omega
            have hmN : m < xs.length := by omega
            have hmT : m < T.length := by omega
            have hmi : (m : Int) < (xs.length : Int) := by omega
            obtain ⟨c0, c1, c2, c3⟩ := HS.out.at m hmN
            obtain ⟨f0, f1, f2, f3⟩ := HS.out.frz (m * 4)
            have hgl := (HS.out.own.lt g rfl).2
            obtain ⟨-, -, -, skx, scx, hkv⟩ := (HS.out.pols.2 m hmT hmN).shape
            obtain ⟨x, hxm⟩ : ∃ x, xs[m] = x := ⟨_, rfl⟩
            have HXM : Hid (xs[m] = x) := hxm
            rw [hxm] at c0 c1 c2 c3 hkv
            obtain ⟨xo, xf, xn, xk⟩ := x
            dsimp only at c0 c1 c2 c3 hkv
            subst hkv
            generalize T[m].kids.length = kn at *
            have HN : Hid (xs.length = m + 1) := hN
            clear hN hxm hx
            go_wp2
            go_roundw
            case rel => exact ⟨k + 1, _, _, by omega, by go_num, by rw [size_top]; omega, okL_top 4 m T HOk.out, HS.out.not m HN.out (sobj ⟨4, f, n, kk⟩) HXM.out⟩
            case measure => simp [intOf]; omega
        by_cases h6 : what = 6
        · subst h6
          obtain ⟨N, eN⟩ : ∃ N, xs.length = N := ⟨_, rfl⟩
          have HN : Hid (xs.length = N) := eN
          have hlN : N ≤ 60 := by omega
          have hw0 : IntKind.i64.wrap 0 = 0 := by decide
          have hsxo := HSx.out.own
          rw [eN] at hsxo HSx ⊢
          rcases hsxo.2 with ⟨hv, hn0⟩ | ⟨g, cap, cur, hv, -⟩
          · simp only [Value.slice.injEq] at hv
            obtain ⟨rfl, -, rfl⟩ := hv
            subst hn0
            obtain rfl : xs = [] := List.length_eq_zero_iff.1 eN
            obtain rfl : T = [] := List.length_eq_zero_iff.1 (by simpa using hlen)
            clear hsxo eN HS
            by_cases hkn : 0 < kk
            · go_wp2_with fail
              have HB5 : Hid (Below (wr.alloc (sobj ⟨6, f, n, kk⟩)).heap.size (wr.alloc (sobj ⟨6, f, n, kk⟩)) ((wr.alloc (sobj ⟨6, f, n, kk⟩)).alloc (.cells #[] 30))) := (Below.refl _ _).alloc (Nat.le_refl _) _
              have HK5 : Hid (PolAt (fun b => w.heap.size + 1 ≤ b ∧ some b ≠ Value.ownBlock (.slice none 0 0)) ((wr.alloc (sobj ⟨6, f, n, kk⟩)).alloc (.cells #[] 30)) (.mk 6 0 0 []) ⟨6, 0, 0, .slice (some ⟨wr.heap.size + 1, 0, none⟩) 0 0⟩) := by
                show PolAt _ _ _ _
                unfold PolAt
                exact ⟨rfl, rfl, rfl, _, _, rfl, fun h => absurd rfl h⟩
              have HSt : Hid (PSt w (w.heap.size + 1) [] (.slice none 0 0) [] ((wr.alloc (sobj ⟨6, f, n, kk⟩)).alloc (.cells #[] 30))) := HSx.out.below HB5.out
              have hot := HSt.out.own
              have hs5 : w.heap.size + 1 ≤ ((wr.alloc (sobj ⟨6, f, n, kk⟩)).alloc (.cells #[] 30)).heap.size := HSt.out.siz
              have hs6 : ((wr.alloc (sobj ⟨6, f, n, kk⟩)).alloc (.cells #[] 30)).heap.size = wr.heap.size + 2 := by simp
              clear HB5
              go_region_law (refine step_append_lies _ (by rfl) _ _ _ (by rfl) (w.heap.size + 1) 30 i0 (nv ⟨0, 0, 0, .slice none 0 0⟩) 4 48 Try.underlying28 hi hz0 hz1 hz2 rfl (by decide) (.slice none 0 0) 0 [] (by rfl) (hot.alloc _) ⟨wr.heap.size + 2, 0, none⟩ 1 1 (enc4 ⟨6, 0, 0, .slice (some ⟨wr.heap.size + 1, 0, none⟩) 0 0⟩) (by rfl) rfl (cell_new4 ((wr.alloc (sobj ⟨6, f, n, kk⟩)).alloc (.cells #[] 30)) _ _ (by simp)) (enc4_one _ rfl) (by decide) (by unfold maxLen; omega) (by omega) (by simp; omega) (wr.heap.size + 3) (by simp) ?_; intro g2 cap2 w6 hown6 hgrow6 hat6 hlt6)
              all_goals
                have HS6 : Hid (PSt w (w.heap.size + 1) ([] ++ [.mk 6 0 0 []]) (.slice (some ⟨g2, 0, none⟩) (0 + 1) cap2) ([] ++ [⟨6, 0, 0, .slice (some ⟨wr.heap.size + 1, 0, none⟩) 0 0⟩]) w6) := HSt.out.app ((Below.refl _ ((wr.alloc (sobj ⟨6, f, n, kk⟩)).alloc (.cells #[] 30))).alloc (Nat.le_refl _) _).drew rfl HK5.out hown6 hgrow6 (by rcases hat6 with e | e; exact .inl e.symm; exact .inr (by simp [Value.ownBlock, e]))
                clear hown6 hgrow6 hat6 hot HSt HK5 HSx
                go_wp2
                go_roundw
                case rel => exact ⟨k + 1, _, _, by omega, by go_num, by simp [sizeP.sizeL, sizeP_mk], okL_leaf [] 6 0 0 (by omega) HOk.out, HS6⟩
                case measure => simp [intOf]; omega
            · obtain rfl : kk = 0 := by omega
              go_wp2_with fail
              have HB5 : Hid (Below (wr.alloc (sobj ⟨6, f, n, 0⟩)).heap.size (wr.alloc (sobj ⟨6, f, n, 0⟩)) ((wr.alloc (sobj ⟨6, f, n, 0⟩)).alloc (.cells #[] 30))) := (Below.refl _ _).alloc (Nat.le_refl _) _
              have HK5 : Hid (PolAt (fun b => w.heap.size + 1 ≤ b ∧ some b ≠ Value.ownBlock (.slice none 0 0)) ((wr.alloc (sobj ⟨6, f, n, 0⟩)).alloc (.cells #[] 30)) (.mk 6 0 0 []) ⟨6, 0, 0, .slice (some ⟨wr.heap.size + 1, 0, none⟩) 0 0⟩) := by
                show PolAt _ _ _ _
                unfold PolAt
                exact ⟨rfl, rfl, rfl, _, _, rfl, fun h => absurd rfl h⟩
              have HSt : Hid (PSt w (w.heap.size + 1) [] (.slice none 0 0) [] ((wr.alloc (sobj ⟨6, f, n, 0⟩)).alloc (.cells #[] 30))) := HSx.out.below HB5.out
              have hot := HSt.out.own
              have hs5 : w.heap.size + 1 ≤ ((wr.alloc (sobj ⟨6, f, n, 0⟩)).alloc (.cells #[] 30)).heap.size := HSt.out.siz
              have hs6 : ((wr.alloc (sobj ⟨6, f, n, 0⟩)).alloc (.cells #[] 30)).heap.size = wr.heap.size + 2 := by simp
              clear HB5
              go_region_law (refine step_append_lies _ (by rfl) _ _ _ (by rfl) (w.heap.size + 1) 30 i0 (nv ⟨0, 0, 0, .slice none 0 0⟩) 4 48 Try.underlying28 hi hz0 hz1 hz2 rfl (by decide) (.slice none 0 0) 0 [] (by rfl) (hot.alloc _) ⟨wr.heap.size + 2, 0, none⟩ 1 1 (enc4 ⟨6, 0, 0, .slice (some ⟨wr.heap.size + 1, 0, none⟩) 0 0⟩) (by rfl) rfl (cell_new4 ((wr.alloc (sobj ⟨6, f, n, 0⟩)).alloc (.cells #[] 30)) _ _ (by simp)) (enc4_one _ rfl) (by decide) (by unfold maxLen; omega) (by omega) (by simp; omega) (wr.heap.size + 3) (by simp) ?_; intro g2 cap2 w6 hown6 hgrow6 hat6 hlt6)
              all_goals
                have HS6 : Hid (PSt w (w.heap.size + 1) ([] ++ [.mk 6 0 0 []]) (.slice (some ⟨g2, 0, none⟩) (0 + 1) cap2) ([] ++ [⟨6, 0, 0, .slice (some ⟨wr.heap.size + 1, 0, none⟩) 0 0⟩]) w6) := HSt.out.app ((Below.refl _ ((wr.alloc (sobj ⟨6, f, n, 0⟩)).alloc (.cells #[] 30))).alloc (Nat.le_refl _) _).drew rfl HK5.out hown6 hgrow6 (by rcases hat6 with e | e; exact .inl e.symm; exact .inr (by simp [Value.ownBlock, e]))
                clear hown6 hgrow6 hat6 hot HSt HK5 HSx
                go_wp2
                go_roundw
                case rel => exact ⟨k + 1, _, _, by omega, by go_num, by simp [sizeP.sizeL, sizeP_mk], okL_leaf [] 6 0 0 (by omega) HOk.out, HS6⟩
                case measure => simp [intOf]; omega
          · simp only [Value.slice.injEq, true_and] at hv
            obtain ⟨rfl, rfl⟩ := hv
            have hcap := own_cap hsxo
            clear hsxo eN HS cur
            by_cases hkn : N < kk
            · obtain ⟨ad, hlo0, had⟩ := slice_lo g N scv 0 (by omega) hcap.1
              have hlo : ∀ W, (Instr.slice 28 (.slice (some ⟨g, 0, none⟩) N scv) (some (.int .i64 0)) none none).run Try.prog W = .ok (.slice (some ad) N scv) W := hlo0
              have hhi : ∀ W, (Instr.slice 28 (.slice (some ⟨g, 0, none⟩) N scv) none (some (.int .i64 0)) none).run Try.prog W = .ok (.slice (some ⟨g, 0, none⟩) 0 scv) W := slice_hi g N scv 0 (by omega)
              clear hlo0
              obtain ⟨hn1, hn2, hn3⟩ := HSx.out.news HN.out 0 had

              have HN2 : Hid _ := hn2
              clear hn2 had
              go_wp2_with (at_builtin; go_loud (refine wpList_append_own_at _ rfl _ _ 28 rfl (wr.heap.size + 1) 30 i0 (nv ⟨0, 0, 0, .slice none 0 0⟩) 4 48 Try.underlying28 hi hz0 hz1 hz2 rfl (by decide) (.slice (some ⟨wr.heap.size + 1, 0, none⟩) 0 0) 0 [] rfl (lit0 (wr.alloc (sobj ⟨6, f, n, kk⟩)) (by simp)) ad N scv (flat4 (xs.drop 0)) rfl hn1 (fun j u hj => news_alloc (HN2.out j u hj) _) hn3 (by unfold maxLen; omega) (by omega) (by simp) ?_; intro v5 w5 hown5 hgrow5 hnil5 hloc5))
              have HB5 : Hid (Below (wr.alloc (sobj ⟨6, f, n, kk⟩)).heap.size (wr.alloc (sobj ⟨6, f, n, kk⟩)) w5) := grown_below (by simp) hgrow5
              simp only [List.nil_append, Nat.zero_add] at hown5
              have HK5 : Hid (PolAt (fun b => w.heap.size + 1 ≤ b ∧ some b ≠ Value.ownBlock (.slice (some ⟨g, 0, none⟩) N scv)) w5 (.mk 6 0 0 (T.drop 0)) ⟨6, 0, 0, v5⟩) := HSx.out.kids 6 0 HB5.out (by rw [List.length_drop, HN.out]; simpa using hown5)
              obtain ⟨s5, c5, rfl⟩ := own_shape hown5
              clear hown5 hgrow5 hnil5 hloc5 HN2 hn1 hn3 hlo

              have q0 : w5.cell? ⟨wr.heap.size, 0, none⟩ = some (.int .i64 6) := (row4 ((HB5.out.block wr.heap.size (by simp)).trans (heap_alloc_new wr (sobj ⟨6, f, n, kk⟩)))).1
              have hlt5 : wr.heap.size < w5.heap.size := by have := HB5.out.size; simp at this; omega
              have HSt : Hid (PSt w (w.heap.size + 1) (T.take 0) (.slice (some ⟨g, 0, none⟩) 0 scv) (xs.take 0) w5) := (HSx.out.below HB5.out).take 0 (by omega) HN.out
              have hTl : (xs.take 0).length = 0 := by simp
              have hot := HSt.out.own
              rw [hTl] at hot
              have hs5 : w.heap.size + 1 ≤ w5.heap.size := HSt.out.siz
              clear HB5
              go_wp2_with fail
              go_region_law (refine step_append_lies _ (by rfl) _ _ _ (by rfl) (w.heap.size + 1) 30 i0 (nv ⟨0, 0, 0, .slice none 0 0⟩) 4 48 Try.underlying28 hi hz0 hz1 hz2 rfl (by decide) (.slice (some ⟨g, 0, none⟩) 0 scv) 0 (flat4 (xs.take 0)) (by rfl) (hot.alloc _) ⟨w5.heap.size, 0, none⟩ 1 1 (enc4 ⟨6, 0, 0, .slice s5 N c5⟩) (by rfl) rfl (cell_new4 w5 _ _ rfl) (enc4_one _ rfl) (by decide) (by unfold maxLen; omega) (by omega) (by simp; omega) (w5.heap.size + 1) (by simp) ?_; intro g2 cap2 w6 hown6 hgrow6 hat6 hlt6)
              all_goals
                have HS6 : Hid (PSt w (w.heap.size + 1) (T.take 0 ++ [.mk 6 0 0 (T.drop 0)]) (.slice (some ⟨g2, 0, none⟩) (0 + 1) cap2) (xs.take 0 ++ [⟨6, 0, 0, .slice s5 N c5⟩]) w6) := HSt.out.app ((Below.refl _ w5).alloc (Nat.le_refl _) _).drew hTl HK5.out hown6 hgrow6 (by rcases hat6 with e | e; exact .inl e.symm; exact .inr (by simp [Value.ownBlock, e]))
                clear hown6 hgrow6 hat6 hot HSt HK5 HSx
                go_wp2
                go_roundw
                case rel => exact ⟨k + 1, _, _, by omega, by go_num, by rw [size_top]; omega, okL_top 6 0 T HOk.out, HS6⟩
                case measure => simp [intOf]; omega
            · obtain ⟨m, hmk⟩ : ∃ m, N = m + kk := ⟨N - kk, by omega⟩
              have hw1 : IntKind.i64.wrap ((N : Int) - (kk : Int)) = (m : Int) := by rw [wr64 _ (by omega) (by omega)]; omega
              obtain ⟨ad, hlo, had⟩ := slice_lo g N scv m (by omega) hcap.1
              have hhi := slice_hi g N scv m (by omega)
              obtain ⟨hn1, hn2, hn3⟩ := HSx.out.news HN.out m had
              have e1 : N - m = kk := by omega
              rw [e1] at hlo hn1
              have HMK : Hid (N = m + kk) := hmk
              have hmN : m ≤ N := by omega
              clear hmk e1

              have HN2 : Hid _ := hn2
              clear hn2 had
              go_wp2_with (at_builtin; go_loud (refine wpList_append_own_at _ rfl _ _ 28 rfl (wr.heap.size + 1) 30 i0 (nv ⟨0, 0, 0, .slice none 0 0⟩) 4 48 Try.underlying28 hi hz0 hz1 hz2 rfl (by decide) (.slice (some ⟨wr.heap.size + 1, 0, none⟩) 0 0) 0 [] rfl (lit0 (wr.alloc (sobj ⟨6, f, n, kk⟩)) (by simp)) ad kk (scv - m) (flat4 (xs.drop m)) rfl hn1 (fun j u hj => news_alloc (HN2.out j u hj) _) hn3 (by unfold maxLen; omega) (by omega) (by simp) ?_; intro v5 w5 hown5 hgrow5 hnil5 hloc5))
              have HB5 : Hid (Below (wr.alloc (sobj ⟨6, f, n, kk⟩)).heap.size (wr.alloc (sobj ⟨6, f, n, kk⟩)) w5) := grown_below (by simp) hgrow5
              simp only [List.nil_append, Nat.zero_add] at hown5
              have HK5 : Hid (PolAt (fun b => w.heap.size + 1 ≤ b ∧ some b ≠ Value.ownBlock (.slice (some ⟨g, 0, none⟩) N scv)) w5 (.mk 6 0 0 (T.drop m)) ⟨6, 0, 0, v5⟩) := HSx.out.kids 6 m HB5.out (by rw [List.length_drop, HN.out, show N - m = kk by have := HMK.out; omega]; simpa using hown5)
              obtain ⟨s5, c5, rfl⟩ := own_shape hown5
              clear hown5 hgrow5 hnil5 hloc5 HN2 hn1 hn3 hlo

              have q0 : w5.cell? ⟨wr.heap.size, 0, none⟩ = some (.int .i64 6) := (row4 ((HB5.out.block wr.heap.size (by simp)).trans (heap_alloc_new wr (sobj ⟨6, f, n, kk⟩)))).1
              have hlt5 : wr.heap.size < w5.heap.size := by have := HB5.out.size; simp at this; omega
              have HSt : Hid (PSt w (w.heap.size + 1) (T.take m) (.slice (some ⟨g, 0, none⟩) m scv) (xs.take m) w5) := (HSx.out.below HB5.out).take m (by omega) HN.out
              have hTl : (xs.take m).length = m := by rw [List.length_take, HN.out]; omega
              have hot := HSt.out.own
              rw [hTl] at hot
              have hs5 : w.heap.size + 1 ≤ w5.heap.size := HSt.out.siz
              clear HB5
              go_wp2_with fail
              go_region_law (refine step_append_lies _ (by rfl) _ _ _ (by rfl) (w.heap.size + 1) 30 i0 (nv ⟨0, 0, 0, .slice none 0 0⟩) 4 48 Try.underlying28 hi hz0 hz1 hz2 rfl (by decide) (.slice (some ⟨g, 0, none⟩) m scv) m (flat4 (xs.take m)) (by rfl) (hot.alloc _) ⟨w5.heap.size, 0, none⟩ 1 1 (enc4 ⟨6, 0, 0, .slice s5 kk c5⟩) (by rfl) rfl (cell_new4 w5 _ _ rfl) (enc4_one _ rfl) (by decide) (by unfold maxLen; omega) (by omega) (by simp; omega) (w5.heap.size + 1) (by simp) ?_; intro g2 cap2 w6 hown6 hgrow6 hat6 hlt6)
              all_goals
                have HS6 : Hid (PSt w (w.heap.size + 1) (T.take m ++ [.mk 6 0 0 (T.drop m)]) (.slice (some ⟨g2, 0, none⟩) (m + 1) cap2) (xs.take m ++ [⟨6, 0, 0, .slice s5 kk c5⟩]) w6) := HSt.out.app ((Below.refl _ w5).alloc (Nat.le_refl _) _).drew hTl HK5.out hown6 hgrow6 (by rcases hat6 with e | e; exact .inl e.symm; exact .inr (by simp [Value.ownBlock, e]))
                clear hown6 hgrow6 hat6 hot HSt HK5 HSx
                go_wp2
                go_roundw
                case rel => exact ⟨k + 1, _, _, by omega, by go_num, by rw [size_top]; omega, okL_top 6 m T HOk.out, HS6⟩
                case measure => simp [intOf]; omega
        by_cases h7 : what = 7
        · subst h7
          obtain ⟨N, eN⟩ : ∃ N, xs.length = N := ⟨_, rfl⟩
          have HN : Hid (xs.length = N) := eN
          have hlN : N ≤ 60 := by omega
          have hw0 : IntKind.i64.wrap 0 = 0 := by decide
          have hsxo := HSx.out.own
          rw [eN] at hsxo HSx ⊢
          rcases hsxo.2 with ⟨hv, hn0⟩ | ⟨g, cap, cur, hv, -⟩
          · simp only [Value.slice.injEq] at hv
            obtain ⟨rfl, -, rfl⟩ := hv
            subst hn0
            obtain rfl : xs = [] := List.length_eq_zero_iff.1 eN
            obtain rfl : T = [] := List.length_eq_zero_iff.1 (by simpa using hlen)
            clear hsxo eN HS
            by_cases hkn : 0 < kk
            · go_wp2_with fail
              have HB5 : Hid (Below (wr.alloc (sobj ⟨7, f, n, kk⟩)).heap.size (wr.alloc (sobj ⟨7, f, n, kk⟩)) ((wr.alloc (sobj ⟨7, f, n, kk⟩)).alloc (.cells #[] 30))) := (Below.refl _ _).alloc (Nat.le_refl _) _
              have HK5 : Hid (PolAt (fun b => w.heap.size + 1 ≤ b ∧ some b ≠ Value.ownBlock (.slice none 0 0)) ((wr.alloc (sobj ⟨7, f, n, kk⟩)).alloc (.cells #[] 30)) (.mk 7 0 0 []) ⟨7, 0, 0, .slice (some ⟨wr.heap.size + 1, 0, none⟩) 0 0⟩) := by
                show PolAt _ _ _ _
                unfold PolAt
                exact ⟨rfl, rfl, rfl, _, _, rfl, fun h => absurd rfl h⟩
              have HSt : Hid (PSt w (w.heap.size + 1) [] (.slice none 0 0) [] ((wr.alloc (sobj ⟨7, f, n, kk⟩)).alloc (.cells #[] 30))) := HSx.out.below HB5.out
              have hot := HSt.out.own
              have hs5 : w.heap.size + 1 ≤ ((wr.alloc (sobj ⟨7, f, n, kk⟩)).alloc (.cells #[] 30)).heap.size := HSt.out.siz
              have hs6 : ((wr.alloc (sobj ⟨7, f, n, kk⟩)).alloc (.cells #[] 30)).heap.size = wr.heap.size + 2 := by simp
              clear HB5
              go_region_law (refine step_append_lies _ (by rfl) _ _ _ (by rfl) (w.heap.size + 1) 30 i0 (nv ⟨0, 0, 0, .slice none 0 0⟩) 4 48 Try.underlying28 hi hz0 hz1 hz2 rfl (by decide) (.slice none 0 0) 0 [] (by rfl) (hot.alloc _) ⟨wr.heap.size + 2, 0, none⟩ 1 1 (enc4 ⟨7, 0, 0, .slice (some ⟨wr.heap.size + 1, 0, none⟩) 0 0⟩) (by rfl) rfl (cell_new4 ((wr.alloc (sobj ⟨7, f, n, kk⟩)).alloc (.cells #[] 30)) _ _ (by simp)) (enc4_one _ rfl) (by decide) (by unfold maxLen; omega) (by omega) (by simp; omega) (wr.heap.size + 3) (by simp) ?_; intro g2 cap2 w6 hown6 hgrow6 hat6 hlt6)
              all_goals
                have HS6 : Hid (PSt w (w.heap.size + 1) ([] ++ [.mk 7 0 0 []]) (.slice (some ⟨g2, 0, none⟩) (0 + 1) cap2) ([] ++ [⟨7, 0, 0, .slice (some ⟨wr.heap.size + 1, 0, none⟩) 0 0⟩]) w6) := HSt.out.app ((Below.refl _ ((wr.alloc (sobj ⟨7, f, n, kk⟩)).alloc (.cells #[] 30))).alloc (Nat.le_refl _) _).drew rfl HK5.out hown6 hgrow6 (by rcases hat6 with e | e; exact .inl e.symm; exact .inr (by simp [Value.ownBlock, e]))
                clear hown6 hgrow6 hat6 hot HSt HK5 HSx
                go_wp2
                go_roundw
                case rel => exact ⟨k + 1, _, _, by omega, by go_num, by simp [sizeP.sizeL, sizeP_mk], okL_leaf [] 7 0 0 (by omega) HOk.out, HS6⟩
                case measure => simp [intOf]; omega
            · obtain rfl : kk = 0 := by omega
              go_wp2_with fail
              have HB5 : Hid (Below (wr.alloc (sobj ⟨7, f, n, 0⟩)).heap.size (wr.alloc (sobj ⟨7, f, n, 0⟩)) ((wr.alloc (sobj ⟨7, f, n, 0⟩)).alloc (.cells #[] 30))) := (Below.refl _ _).alloc (Nat.le_refl _) _
              have HK5 : Hid (PolAt (fun b => w.heap.size + 1 ≤ b ∧ some b ≠ Value.ownBlock (.slice none 0 0)) ((wr.alloc (sobj ⟨7, f, n, 0⟩)).alloc (.cells #[] 30)) (.mk 7 0 0 []) ⟨7, 0, 0, .slice (some ⟨wr.heap.size + 1, 0, none⟩) 0 0⟩) := by
                show PolAt _ _ _ _
                unfold PolAt
                exact ⟨rfl, rfl, rfl, _, _, rfl, fun h => absurd rfl h⟩
              have HSt : Hid (PSt w (w.heap.size + 1) [] (.slice none 0 0) [] ((wr.alloc (sobj ⟨7, f, n, 0⟩)).alloc (.cells #[] 30))) := HSx.out.below HB5.out
              have hot := HSt.out.own
              have hs5 : w.heap.size + 1 ≤ ((wr.alloc (sobj ⟨7, f, n, 0⟩)).alloc (.cells #[] 30)).heap.size := HSt.out.siz
              have hs6 : ((wr.alloc (sobj ⟨7, f, n, 0⟩)).alloc (.cells #[] 30)).heap.size = wr.heap.size + 2 := by simp
              clear HB5
              go_region_law (refine step_append_lies _ (by rfl) _ _ _ (by rfl) (w.heap.size + 1) 30 i0 (nv ⟨0, 0, 0, .slice none 0 0⟩) 4 48 Try.underlying28 hi hz0 hz1 hz2 rfl (by decide) (.slice none 0 0) 0 [] (by rfl) (hot.alloc _) ⟨wr.heap.size + 2, 0, none⟩ 1 1 (enc4 ⟨7, 0, 0, .slice (some ⟨wr.heap.size + 1, 0, none⟩) 0 0⟩) (by rfl) rfl (cell_new4 ((wr.alloc (sobj ⟨7, f, n, 0⟩)).alloc (.cells #[] 30)) _ _ (by simp)) (enc4_one _ rfl) (by decide) (by unfold maxLen; omega) (by omega) (by simp; omega) (wr.heap.size + 3) (by simp) ?_; intro g2 cap2 w6 hown6 hgrow6 hat6 hlt6)
              all_goals
                have HS6 : Hid (PSt w (w.heap.size + 1) ([] ++ [.mk 7 0 0 []]) (.slice (some ⟨g2, 0, none⟩) (0 + 1) cap2) ([] ++ [⟨7, 0, 0, .slice (some ⟨wr.heap.size + 1, 0, none⟩) 0 0⟩]) w6) := HSt.out.app ((Below.refl _ ((wr.alloc (sobj ⟨7, f, n, 0⟩)).alloc (.cells #[] 30))).alloc (Nat.le_refl _) _).drew rfl HK5.out hown6 hgrow6 (by rcases hat6 with e | e; exact .inl e.symm; exact .inr (by simp [Value.ownBlock, e]))
                clear hown6 hgrow6 hat6 hot HSt HK5 HSx
                go_wp2
                go_roundw
                case rel => exact ⟨k + 1, _, _, by omega, by go_num, by simp [sizeP.sizeL, sizeP_mk], okL_leaf [] 7 0 0 (by omega) HOk.out, HS6⟩
                case measure => simp [intOf]; omega
          · simp only [Value.slice.injEq, true_and] at hv
            obtain ⟨rfl, rfl⟩ := hv
            have hcap := own_cap hsxo
            clear hsxo eN HS cur
            by_cases hkn : N < kk
            · obtain ⟨ad, hlo0, had⟩ := slice_lo g N scv 0 (by omega) hcap.1
              have hlo : ∀ W, (Instr.slice 28 (.slice (some ⟨g, 0, none⟩) N scv) (some (.int .i64 0)) none none).run Try.prog W = .ok (.slice (some ad) N scv) W := hlo0
              have hhi : ∀ W, (Instr.slice 28 (.slice (some ⟨g, 0, none⟩) N scv) none (some (.int .i64 0)) none).run Try.prog W = .ok (.slice (some ⟨g, 0, none⟩) 0 scv) W := slice_hi g N scv 0 (by omega)
              clear hlo0
              obtain ⟨hn1, hn2, hn3⟩ := HSx.out.news HN.out 0 had

              have HN2 : Hid _ := hn2
              clear hn2 had
              go_wp2_with (at_builtin; go_loud (refine wpList_append_own_at _ rfl _ _ 28 rfl (wr.heap.size + 1) 30 i0 (nv ⟨0, 0, 0, .slice none 0 0⟩) 4 48 Try.underlying28 hi hz0 hz1 hz2 rfl (by decide) (.slice (some ⟨wr.heap.size + 1, 0, none⟩) 0 0) 0 [] rfl (lit0 (wr.alloc (sobj ⟨7, f, n, kk⟩)) (by simp)) ad N scv (flat4 (xs.drop 0)) rfl hn1 (fun j u hj => news_alloc (HN2.out j u hj) _) hn3 (by unfold maxLen; omega) (by omega) (by simp) ?_; intro v5 w5 hown5 hgrow5 hnil5 hloc5))
              have HB5 : Hid (Below (wr.alloc (sobj ⟨7, f, n, kk⟩)).heap.size (wr.alloc (sobj ⟨7, f, n, kk⟩)) w5) := grown_below (by simp) hgrow5
              simp only [List.nil_append, Nat.zero_add] at hown5
              have HK5 : Hid (PolAt (fun b => w.heap.size + 1 ≤ b ∧ some b ≠ Value.ownBlock (.slice (some ⟨g, 0, none⟩) N scv)) w5 (.mk 7 0 0 (T.drop 0)) ⟨7, 0, 0, v5⟩) := HSx.out.kids 7 0 HB5.out (by rw [List.length_drop, HN.out]; simpa using hown5)
              obtain ⟨s5, c5, rfl⟩ := own_shape hown5
              clear hown5 hgrow5 hnil5 hloc5 HN2 hn1 hn3 hlo

              have q0 : w5.cell? ⟨wr.heap.size, 0, none⟩ = some (.int .i64 7) := (row4 ((HB5.out.block wr.heap.size (by simp)).trans (heap_alloc_new wr (sobj ⟨7, f, n, kk⟩)))).1
              have hlt5 : wr.heap.size < w5.heap.size := by have := HB5.out.size; simp at this; omega
              have HSt : Hid (PSt w (w.heap.size + 1) (T.take 0) (.slice (some ⟨g, 0, none⟩) 0 scv) (xs.take 0) w5) := (HSx.out.below HB5.out).take 0 (by omega) HN.out
              have hTl : (xs.take 0).length = 0 := by simp
              have hot := HSt.out.own
              rw [hTl] at hot
              have hs5 : w.heap.size + 1 ≤ w5.heap.size := HSt.out.siz
              clear HB5
              go_wp2_with fail
              go_region_law (refine step_append_lies _ (by rfl) _ _ _ (by rfl) (w.heap.size + 1) 30 i0 (nv ⟨0, 0, 0, .slice none 0 0⟩) 4 48 Try.underlying28 hi hz0 hz1 hz2 rfl (by decide) (.slice (some ⟨g, 0, none⟩) 0 scv) 0 (flat4 (xs.take 0)) (by rfl) (hot.alloc _) ⟨w5.heap.size, 0, none⟩ 1 1 (enc4 ⟨7, 0, 0, .slice s5 N c5⟩) (by rfl) rfl (cell_new4 w5 _ _ rfl) (enc4_one _ rfl) (by decide) (by unfold maxLen; omega) (by omega) (by simp; omega) (w5.heap.size + 1) (by simp) ?_; intro g2 cap2 w6 hown6 hgrow6 hat6 hlt6)
              all_goals
                have HS6 : Hid (PSt w (w.heap.size + 1) (T.take 0 ++ [.mk 7 0 0 (T.drop 0)]) (.slice (some ⟨g2, 0, none⟩) (0 + 1) cap2) (xs.take 0 ++ [⟨7, 0, 0, .slice s5 N c5⟩]) w6) := HSt.out.app ((Below.refl _ w5).alloc (Nat.le_refl _) _).drew hTl HK5.out hown6 hgrow6 (by rcases hat6 with e | e; exact .inl e.symm; exact .inr (by simp [Value.ownBlock, e]))
                clear hown6 hgrow6 hat6 hot HSt HK5 HSx
                go_wp2
                go_roundw
                case rel => exact ⟨k + 1, _, _, by omega, by go_num, by rw [size_top]; omega, okL_top 7 0 T HOk.out, HS6⟩
                case measure => simp [intOf]; omega
            · obtain ⟨m, hmk⟩ : ∃ m, N = m + kk := ⟨N - kk, by omega⟩
              have hw1 : IntKind.i64.wrap ((N : Int) - (kk : Int)) = (m : Int) := by rw [wr64 _ (by omega) (by omega)]; omega
              obtain ⟨ad, hlo, had⟩ := slice_lo g N scv m (by omega) hcap.1
              have hhi := slice_hi g N scv m (by omega)
              obtain ⟨hn1, hn2, hn3⟩ := HSx.out.news HN.out m had
              have e1 : N - m = kk := by omega
              rw [e1] at hlo hn1
              have HMK : Hid (N = m + kk) := hmk
              have hmN : m ≤ N := by omega
              clear hmk e1

              have HN2 : Hid _ := hn2
              clear hn2 had
              go_wp2_with (at_builtin; go_loud (refine wpList_append_own_at _ rfl _ _ 28 rfl (wr.heap.size + 1) 30 i0 (nv ⟨0, 0, 0, .slice none 0 0⟩) 4 48 Try.underlying28 hi hz0 hz1 hz2 rfl (by decide) (.slice (some ⟨wr.heap.size + 1, 0, none⟩) 0 0) 0 [] rfl (lit0 (wr.alloc (sobj ⟨7, f, n, kk⟩)) (by simp)) ad kk (scv - m) (flat4 (xs.drop m)) rfl hn1 (fun j u hj => news_alloc (HN2.out j u hj) _) hn3 (by unfold maxLen; omega) (by omega) (by simp) ?_; intro v5 w5 hown5 hgrow5 hnil5 hloc5))
              have HB5 : Hid (Below (wr.alloc (sobj ⟨7, f, n, kk⟩)).heap.size (wr.alloc (sobj ⟨7, f, n, kk⟩)) w5) := grown_below (by simp) hgrow5
              simp only [List.nil_append, Nat.zero_add] at hown5
              have HK5 : Hid (PolAt (fun b => w.heap.size + 1 ≤ b ∧ some b ≠ Value.ownBlock (.slice (some ⟨g, 0, none⟩) N scv)) w5 (.mk 7 0 0 (T.drop m)) ⟨7, 0, 0, v5⟩) := HSx.out.kids 7 m HB5.out (by rw [List.length_drop, HN.out, show N - m = kk by have := HMK.out; omega]; simpa using hown5)
              obtain ⟨s5, c5, rfl⟩ := own_shape hown5
              clear hown5 hgrow5 hnil5 hloc5 HN2 hn1 hn3 hlo

              have q0 : w5.cell? ⟨wr.heap.size, 0, none⟩ = some (.int .i64 7) := (row4 ((HB5.out.block wr.heap.size (by simp)).trans (heap_alloc_new wr (sobj ⟨7, f, n, kk⟩)))).1
              have hlt5 : wr.heap.size < w5.heap.size := by have := HB5.out.size; simp at this; omega
              have HSt : Hid (PSt w (w.heap.size + 1) (T.take m) (.slice (some ⟨g, 0, none⟩) m scv) (xs.take m) w5) := (HSx.out.below HB5.out).take m (by omega) HN.out
              have hTl : (xs.take m).length = m := by rw [List.length_take, HN.out]; omega
              have hot := HSt.out.own
              rw [hTl] at hot
              have hs5 : w.heap.size + 1 ≤ w5.heap.size := HSt.out.siz
              clear HB5
              go_wp2_with fail
              go_region_law (refine step_append_lies _ (by rfl) _ _ _ (by rfl) (w.heap.size + 1) 30 i0 (nv ⟨0, 0, 0, .slice none 0 0⟩) 4 48 Try.underlying28 hi hz0 hz1 hz2 rfl (by decide) (.slice (some ⟨g, 0, none⟩) m scv) m (flat4 (xs.take m)) (by rfl) (hot.alloc _) ⟨w5.heap.size, 0, none⟩ 1 1 (enc4 ⟨7, 0, 0, .slice s5 kk c5⟩) (by rfl) rfl (cell_new4 w5 _ _ rfl) (enc4_one _ rfl) (by decide) (by unfold maxLen; omega) (by omega) (by simp; omega) (w5.heap.size + 1) (by simp) ?_; intro g2 cap2 w6 hown6 hgrow6 hat6 hlt6)
              all_goals
                have HS6 : Hid (PSt w (w.heap.size + 1) (T.take m ++ [.mk 7 0 0 (T.drop m)]) (.slice (some ⟨g2, 0, none⟩) (m + 1) cap2) (xs.take m ++ [⟨7, 0, 0, .slice s5 kk c5⟩]) w6) := HSt.out.app ((Below.refl _ w5).alloc (Nat.le_refl _) _).drew hTl HK5.out hown6 hgrow6 (by rcases hat6 with e | e; exact .inl e.symm; exact .inr (by simp [Value.ownBlock, e]))
                clear hown6 hgrow6 hat6 hot HSt HK5 HSx
                go_wp2
                go_roundw
                case rel => exact ⟨k + 1, _, _, by omega, by go_num, by rw [size_top]; omega, okL_top 7 m T HOk.out, HS6⟩
                case measure => simp [intOf]; omega
        have e4 : (what == 4) = false := by simpa using h4
        have e6 : (what == 6) = false := by simpa using h6
        have e7 : (what == 7) = false := by simpa using h7
        have e0 : (what == 0) = false := by simpa using h0
        have e1 : (what == 1) = false := by simpa using h1
        have e2 : (what == 2) = false := by simpa using h2
        have e3 : (what == 3) = false := by simpa using h3
        have e5 : (what == 5) = false := by simpa using h5
        clear h0 h1 h2 h3 h4 h5 h6 h7
        go_wp2
        go_roundw
        case rel => exact ⟨k + 1, T, xs, by omega, by go_num, by omega, HOk, HSx⟩
        case measure => simp [intOf]; omega
      · obtain rfl : k = R := by omega
        obtain ⟨sv, scv, rfl⟩ := own_shape HS.out.own
        obtain ⟨t0, t1, t2, t3⟩ := row4 HS.out.res
        obtain ⟨f0, f1, f2, f3⟩ := frz4 HS.out.res
        have hwl := heap_lt HS.out.res
        have HBel : Hid (Below w.heap.size w wr) := HS.out.bel
        have HRes : Hid _ := HS.out.res
        by_cases hx : xs.length = 0
        · have HS' : Hid _ := HS
          obtain rfl : xs = [] := List.length_eq_zero_iff.1 hx
          clear HS' HS HC HM hlen hT hx
          simp only [List.length_nil]
          go_wp2
          refine bodyPost_ret (v := .tuple #[nv ⟨0, 0, 0, .slice none 0 0⟩, .bool false]) ?_ rfl (PileEnd.mk (x := ⟨0, 0, 0, .slice none 0 0⟩) (b := false) rfl (below_set4 HBel.out (Nat.le_refl _) _ _ _ _) ⟨_, _, _, rfl⟩ (fun h => by cases h))
          obtain ⟨g0, g1, g2, g3⟩ := row4 (set4 (.int .i64 0) (.int .i64 0) (.int .u16 0) (.slice none 0 0) HRes.out)
          simp [results, Try.results8, go_sem, g0, g1, g2, g3]
        · obtain ⟨m, hN⟩ : ∃ m, xs.length = m + 1 := ⟨xs.length - 1, by omega⟩
          obtain ⟨g, rfl⟩ := own_some HS.out.own (by omega)
          have hw1 : IntKind.i64.wrap ((xs.length : Int) - 1) = (m : Int) := by rw [wr64 _ (by omega) (by omega)]; omega
          have hmN : m < xs.length := by omega
          have hmT : m < T.length := by omega
          have hmi : (m : Int) < (xs.length : Int) := by omega
          have d0 : ((xs.length : Int) == 0) = false := by simp only [beq_eq_false_iff_ne]; omega
          obtain ⟨c0, c1, c2, c3⟩ := HS.out.at m hmN
          have hgl := (HS.out.own.lt g rfl).2
          have HP : Hid (PolAt (fun b => w.heap.size < b) wr T[m] xs[m]) := (HS.out.pols.2 m hmT hmN).mono fun b hb _ => by have := hb.1; show w.heap.size < b; omega
          have hsz := size_get T m hmT
          have HSz : Hid (sizeP T[m] ≤ 60) := by show _ ≤ _; omega
          have HOt : Hid (okN T[m]) := okN_get T HOk.out m hmT
          obtain ⟨-, -, -, skx, scx, hkv⟩ := HP.out.shape
          generalize T[m] = t at *
          generalize xs[m] = x at *
          obtain ⟨xo, xf, xn, xk⟩ := x
          dsimp only at c0 c1 c2 c3 hkv
          subst hkv
          obtain ⟨kn, hkn⟩ : ∃ kn, t.kids.length = kn := ⟨_, rfl⟩
          rw [hkn] at HP c3
          obtain ⟨N, eN⟩ : ∃ N, xs.length = N := ⟨_, rfl⟩
          rw [eN] at hw1 hmN hmi d0 ⊢
          clear HS hsz hN hx hkn eN hT hlen hmT HC HM
          go_wp2
          refine bodyPost_ret (v := .tuple #[nv ⟨xo, xf, xn, .slice skx kn scx⟩, .bool true]) ?_ rfl (PileEnd.mk (x := ⟨xo, xf, xn, .slice skx kn scx⟩) (b := true) rfl (below_set4 HBel.out (Nat.le_refl _) _ _ _ _) ⟨_, _, _, rfl⟩ (fun _ => ⟨t, HSz.out, HOt.out, pol_set4 HP.out (by show ¬ w.heap.size < w.heap.size; omega) _ _ _ _⟩))
          obtain ⟨g0, g1, g2, g3⟩ := row4 (set4 (.int .i64 xo) (.int .i64 xf) (.int .u16 xn) (.slice skx kn scx) HRes.out)
          simp [results, Try.results8, go_sem, g0, g1, g2, g3]
end Go.Proofs.Ytipiepcbgjceaaa
