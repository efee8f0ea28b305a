/- What makes answers: as the model; by the book where there are several packets, without it where none needs it. -/
import Derived.Test.YtipiepcbgjceaaaH4
set_option linter.unusedVariables false
set_option linter.unusedSimpArgs false
namespace Go.Proofs.Ytipiepcbgjceaaa
open Go.RowKit Go.Joins Go.Maps

theorem kid_pred {parts : Int} {f n : Int} {kids : List Pl} (h : formP parts (.mk 4 f n kids) = true) : ∃ k, kids = [k] ∧ predP k = true ∧ formP parts k = true := by
  rw [formP_eq, Bool.and_eq_true] at h
  have h1 := h.1
  unfold nodeB at h1
  simp only [show ¬((4 : Int) = 0 ∨ (4 : Int) = 1) by omega, show ¬(4 : Int) = 2 by omega, show ¬(4 : Int) = 3 by omega, show ¬(4 : Int) = 5 by omega, if_false, if_true, Bool.and_eq_true, decide_eq_true_eq] at h1
  match kids, h1, h.2 with
  | [k], h1, h2 =>
    rw [formP.formL, Bool.and_eq_true] at h2
    exact ⟨k, rfl, h1.2, h2.1⟩

set_option maxRecDepth 100000 in
set_option maxHeartbeats 8000000 in
theorem makes_not (B : Nat) (G : Nat → Option Pl) (f n : Int) (k : Pl) (hgood : GoodT (.mk 4 f n [k])) (ih : MakesC B G k) : MakesC B G (.mk 4 f n [k]) := by
  intro X b q w hq hG hX hI
  have hb0 : Below w.heap.size w (w.alloc (pobj8 q)) := (Below.refl _ w).alloc (Nat.le_refl _) _
  obtain ⟨kv, bk, hrow, sa, sc, rfl, hk⟩ := (hI.below hb0).node hG
  obtain ⟨r0, r1, r2, r3, r4⟩ := row5 hrow
  obtain ⟨⟨c0, c1, c2, c3, c4, c5, c6, c7⟩, -, -⟩ := row8 (heap_alloc_new w (pobj8 q))
  have hbx := heap_alloc_new w (pobj8 q)
  obtain ⟨k', e, hp, hf⟩ := kid_pred hgood.form
  injection e with e
  subst e
  obtain ⟨l, hl, ho⟩ := pred_only [] 4 k q hp hf
  obtain ⟨b2, off, c, rfl, hb2, ht2, hcell, hGc⟩ := hk 0 (by simp)
  simp only [Nat.add_zero, List.getElem_cons_zero] at hcell hGc
  have HI : Hid (Inv B G X (w.alloc (pobj8 q))) := hI.below hb0
  have HF : Hid (Fr B w (w.alloc (pobj8 q))) := Fr.of_below hb0
  have HBd : Hid (Below (w.alloc (pobj8 q)).heap.size (w.alloc (pobj8 q)) (w.alloc (pobj8 q)).drew) := below_drewN (Below.refl _ _) 1
  have cM : Hid (∀ W, Below (w.alloc (pobj8 q)).heap.size (w.alloc (pobj8 q)) W → Calls Try.prog 25 #[.pointer (some ⟨c, 0, none⟩), q.v] W fun e w' => MadeEnd B G X (some l) W e w') := fun W hW => by
    have := ih X c q W hq hGc (hX.mono (Nat.le_trans hb0.size hW.size)) (HI.out.below hW)
    rw [hl] at this
    exact this
  have HBx : Hid (∀ W w2, Below (w.alloc (pobj8 q)).heap.size (w.alloc (pobj8 q)) W → Fr B W w2 → w2.heap[w.heap.size]? = some (pobj8 q)) := fun W w2 hW hf => by
    have h1 := (hW.block _ (heap_lt hbx)).trans hbx
    exact (hf.calm _ (heap_lt h1) (calm_cells h1 (by decide))).trans h1
  rw [mkP_mk, if_neg (by decide), if_neg (by decide), if_neg (by decide), if_neg (by decide), if_pos rfl, mkP.mkFst, hl, Option.map_some]
  have HRow : Hid _ := hrow
  clear hq hG hX hI hrow hb0 hk ht2 hgood ih hp hf hl
  simp only [List.length_cons, List.length_nil] at r3
  rcases ho.eq with rfl | rfl
  · rw [if_pos rfl]
    have HE : Hid (∀ W w2, Below (w.alloc (pobj8 q)).heap.size (w.alloc (pobj8 q)) W → Fr B W w2 → Inv B G X w2 → MadeEnd B G X (some [q]) w (.returned (.tuple #[.slice (some ⟨w2.heap.size, 0, none⟩) 1 1, .bool true])) (w2.alloc (pobj8 q))) := fun W w2 hW hf hi => MadeEnd.one q (HF.out.trans ((Fr.of_below hW).trans hf)) hi
    clear ho hbx
    go_enter Try.func25, Try.ntmps25
    go_wp2_with fail
    go_region_law (go_simp; go_at_call 25; refine Calls.mono (cM.out _ HBd.out) ?_; rintro e w2 ⟨v, ok, rfl, hf2, hI2, hn2, hs2, hno2⟩; obtain ⟨rfl, hv2⟩ := hs2 [] rfl; have hbx2 := HBx.out _ w2 HBd.out hf2; obtain rfl : v = .slice none 0 0 := (by rcases hv2 with ⟨-, h⟩ | ⟨h, -⟩; exact h; exact absurd rfl h); have HE2 : Hid _ := HE.out _ w2 HBd.out hf2 hI2; obtain ⟨⟨s0, s1, s2, s3, s4, s5, s6, s7⟩, -, -⟩ := row8 hbx2; clear hf2 hI2 hn2 hs2 hno2 hv2 hbx2)
    all_goals
      clear HE cM HBx HBd HI HF HRow
      go_wp2
      refine bodyPost_ret (v := .tuple #[.slice (some ⟨w2.heap.size, 0, none⟩) 1 1, .bool true]) ?_ rfl HE2.out
      simp [results, Try.results25, go_sem]
  · rw [if_neg (by simp)]
    have HE : Hid (∀ W w2, Below (w.alloc (pobj8 q)).heap.size (w.alloc (pobj8 q)) W → Fr B W w2 → Inv B G X w2 → MadeEnd B G X (some []) w (.returned (.tuple #[.slice none 0 0, .bool true])) w2) := fun W w2 hW hf hi => MadeEnd.nil (HF.out.trans ((Fr.of_below hW).trans hf)) hi
    clear ho hbx
    go_enter Try.func25, Try.ntmps25
    go_wp2_with fail
    go_region_law (go_simp; go_at_call 25; refine Calls.mono (cM.out _ HBd.out) ?_; rintro e w2 ⟨v, ok, rfl, hf2, hI2, hn2, hs2, hno2⟩; obtain ⟨rfl, hv2⟩ := hs2 [q] rfl; obtain ⟨va, vc, rfl, -⟩ := hv2.shape; have HE2 : Hid _ := HE.out _ w2 HBd.out hf2 hI2; clear hf2 hI2 hn2 hs2 hno2 hv2)
    all_goals
      clear HE cM HBx HBd HI HF HRow
      go_wp2
      refine bodyPost_ret (v := .tuple #[.slice none 0 0, .bool true]) ?_ rfl HE2.out
      simp [results, Try.results25, go_sem]

theorem MadeEnd.since {B : Nat} {G : Nat → Option Pl} {X : Nat → Prop} {r : Option (List P8)} {w w0 : World} {e : Ending} {w' : World} (h : MadeEnd B G X r w e w') (hw : Below w0.heap.size w0 w) : MadeEnd B G X r w0 e w' := by
  obtain ⟨v, ok, e1, e2, e3, e4, e5, e6⟩ := h
  exact ⟨v, ok, e1, (Fr.of_below hw).trans e2, e3, e4.mono hw.size, e5, e6⟩

set_option maxRecDepth 100000 in
set_option maxHeartbeats 8000000 in
theorem makes_seq (B : Nat) (G : Nat → Option Pl) (f n : Int) (kids : List Pl) (hgood : GoodT (.mk 6 f n kids))
    (hA : ∀ q, Q8 q → ∀ k (hk : k < kids.length) L, mkP.mkSeq [] (kids.take k) [q] = some L → AgainC B G kids[k] L.length) : MakesC B G (.mk 6 f n kids) := by
  intro X b q w hq hG hX hI
  have hb0 : Below w.heap.size w (w.alloc (pobj8 q)) := (Below.refl _ w).alloc (Nat.le_refl _) _
  obtain ⟨kv, bk, hrow, sa, sc, rfl, hk⟩ := (hI.below hb0).node hG
  obtain ⟨r0, r1, r2, r3, r4⟩ := row5 hrow
  obtain ⟨⟨c0, c1, c2, c3, c4, c5, c6, c7⟩, -, -⟩ := row8 (heap_alloc_new w (pobj8 q))
  have cT := turn_any B G X 6 f n kids b q (w.alloc (pobj8 q)) hgood hq hG (hX.mono hb0.size) (hI.below hb0) (hA q hq)
  rw [mkP_mk, if_neg (by decide), if_neg (by decide), if_neg (by decide), if_neg (by decide), if_neg (by decide), if_neg (by decide), if_pos rfl]
  have HB0 : Hid _ := hb0
  clear hq hG hX hI hrow hb0 hk hgood hA
  generalize mkP.mkSeq [] kids [q] = R at *
  go_enter Try.func25, Try.ntmps25
  go_wp2_with fail
  refine cT.mono ?_
  intro e w1 hE
  have hA := hE.since HB0.out
  obtain ⟨v, ok, rfl, -⟩ := hE
  have HA : Hid _ := hA
  clear hA cT HB0
  go_wp2
  refine bodyPost_ret (v := .tuple #[v, .bool ok]) ?_ rfl HA.out
  simp [results, Try.results25, go_sem]

set_option maxRecDepth 100000 in
set_option maxHeartbeats 8000000 in
theorem makes_sum (B : Nat) (G : Nat → Option Pl) (f n : Int) (kids : List Pl) (hgood : GoodT (.mk 7 f n kids)) (hA : ∀ k (hk : k < kids.length), MakesC B G kids[k]) : MakesC B G (.mk 7 f n kids) := by
  intro X b q w hq hG hX hI
  have hb0 : Below w.heap.size w (w.alloc (pobj8 q)) := (Below.refl _ w).alloc (Nat.le_refl _) _
  obtain ⟨kv, bk, hrow, sa, sc, rfl, hk⟩ := (hI.below hb0).node hG
  obtain ⟨r0, r1, r2, r3, r4⟩ := row5 hrow
  obtain ⟨⟨c0, c1, c2, c3, c4, c5, c6, c7⟩, -, -⟩ := row8 (heap_alloc_new w (pobj8 q))
  have cT := sum_any B G X 7 f n kids b q (w.alloc (pobj8 q)) hgood hq hG (hX.mono hb0.size) (hI.below hb0) hA
  rw [mkP_mk, if_neg (by decide), if_neg (by decide), if_neg (by decide), if_neg (by decide), if_neg (by decide), if_neg (by decide), if_neg (by decide)]
  have HB0 : Hid _ := hb0
  clear hq hG hX hI hrow hb0 hk hgood hA
  generalize mkP.mkSum [] kids q [] = R at *
  go_enter Try.func25, Try.ntmps25
  go_wp2_with fail
  refine cT.mono ?_
  intro e w1 hE
  have hA := hE.since HB0.out
  obtain ⟨v, ok, rfl, -⟩ := hE
  have HA : Hid _ := hA
  clear hA cT HB0
  go_wp2
  refine bodyPost_ret (v := .tuple #[v, .bool ok]) ?_ rfl HA.out
  simp [results, Try.results25, go_sem]

/-- A policy of whose sequences each one's kids are asked of one packet at a time, or have no kids. -/
def Slim (T : Pl) : Prop := ∀ S, (∃ f n kids, S = Pl.mk 6 f n kids ∧ Sub S T) → ∀ q, Q8 q → ∀ k (hk : k < S.kids.length) L, mkP.mkSeq [] (S.kids.take k) [q] = some L → (L.length < 2 ∨ S.kids[k].kids = [])
  where
  Sub (S : Pl) : Pl → Prop
  | .mk op f n kids => S = .mk op f n kids ∨ subL S kids
  subL (S : Pl) : List Pl → Prop
  | [] => False
  | p :: r => Sub S p ∨ subL S r
theorem op_cases {parts op f n : Int} {kids : List Pl} (h : formP parts (.mk op f n kids) = true) (h3 : op ≠ 3) : op = 0 ∨ op = 1 ∨ op = 2 ∨ op = 4 ∨ op = 5 ∨ op = 6 ∨ op = 7 := by
  rw [formP_eq, Bool.and_eq_true] at h
  have h1 := h.1
  unfold nodeB at h1
  by_cases e0 : op = 0 ∨ op = 1
  · omega
  rw [if_neg e0] at h1
  by_cases e2 : op = 2
  · omega
  rw [if_neg e2] at h1
  by_cases e3 : op = 3
  · omega
  rw [if_neg e3] at h1
  by_cases e5 : op = 5
  · omega
  rw [if_neg e5] at h1
  by_cases e4 : op = 4
  · omega
  rw [if_neg e4] at h1
  by_cases e6 : op = 6 ∨ op = 7
  · omega
  rw [if_neg e6] at h1
  cases h1
theorem sub_get (S : Pl) : ∀ (kids : List Pl) (i : Nat) (h : i < kids.length), Slim.Sub S kids[i] → Slim.subL S kids
  | p :: r, 0, _, hs => by rw [Slim.subL]; exact .inl (by simpa using hs)
  | p :: r, i + 1, h, hs => by rw [Slim.subL]; exact .inr (sub_get S r i (by simpa using h) (by simpa using hs))
theorem Slim.kid {op f n : Int} {kids : List Pl} (h : Slim (.mk op f n kids)) (i : Nat) (hi : i < kids.length) : Slim kids[i] := fun S ⟨f', n', k', e, hs⟩ => h S ⟨f', n', k', e, by rw [Sub]; exact .inr (sub_get S kids i hi hs)⟩
theorem Slim.self {f n : Int} {kids : List Pl} (h : Slim (.mk 6 f n kids)) (q : P8) (hq : Q8 q) (k : Nat) (hk : k < kids.length) (L : List P8) (hL : mkP.mkSeq [] (kids.take k) [q] = some L) : L.length < 2 ∨ kids[k].kids = [] :=
  h (.mk 6 f n kids) ⟨f, n, kids, rfl, by rw [Sub]; exact .inl rfl⟩ q hq k hk L hL
/-- What makes answers of every policy. -/
theorem makes_all (B : Nat) (G : Nat → Option Pl) : ∀ (m : Nat) (T : Pl), sizeP T ≤ m → GoodT T → (Slim T ∨ Many B G) → MakesC B G T
  | 0, T, h, _, _ => absurd (size_pos T) (by omega)
  | m + 1, .mk op f n kids, hs, hg, hM => by
    rw [sizeP_mk] at hs
    have h3 : op ≠ 3 := by have := hg.noSt; rw [noSt] at this; exact this.1
    have ih : ∀ k (hk : k < kids.length), MakesC B G kids[k] := fun k hk => makes_all B G m kids[k] (by have := size_get kids k hk; omega) (hg.kid k hk) (hM.imp (fun h => h.kid k hk) id)
    rcases op_cases hg.form h3 with rfl | rfl | rfl | rfl | rfl | rfl | rfl
    · exact makes_leaf B G 0 f n kids hg (.inl rfl)
    · exact makes_leaf B G 1 f n kids hg (.inr (.inl rfl))
    · exact makes_leaf B G 2 f n kids hg (.inr (.inr rfl))
    · obtain ⟨k, rfl, -, -⟩ := kid_pred hg.form
      exact makes_not B G f n k hg (ih 0 (by simp))
    · exact makes_put B G f n kids
    · refine makes_seq B G f n kids hg fun q hq k hk L hL => ?_
      by_cases he : (L.length : Int) < 2 ∨ kids[k].kids = []
      · exact again_easy B G kids[k] L.length (ih k hk) he
      · rcases hM with h | h
        · rcases h.self q hq k hk L hL with e | e
          · exact absurd (.inl (by omega)) he
          · exact absurd (.inr e) he
        · refine h kids[k] L.length (hg.kid k hk) (by omega) ?_ (fun e => he (.inr e)) (ih k hk)
          have := mkSeq_len [] _ [q] L (by simp) hL
          omega
    · exact makes_sum B G f n kids hg ih
/-- A predicate needs no book. -/
theorem slim_pred (T : Pl) (hg : GoodT T) (hp : predP T = true) : Slim T := by
  intro S ⟨f, n, kids, e, hs⟩ q hq k hk L hL
  have hS : predP S = true ∧ formP 4 S = true := sub T hs hp hg.form
  subst e
  left
  have h1 := hS.1
  have h2 := hS.2
  rw [predP, Bool.or_eq_true, Bool.and_eq_true] at h1
  rw [formP_eq, Bool.and_eq_true] at h2
  have hl : predP.predL kids = true := by
    rcases h1 with h | h
    · exact absurd h (by unfold opB; decide)
    · exact h.2
  have ht : predP.predL (kids.take k) = true ∧ formP.formL 4 (kids.take k) = true := by
    have a := predL_app (kids.take k) (kids.drop k)
    have b := formL_app 4 (kids.take k) (kids.drop k)
    rw [List.take_append_drop, hl] at a
    rw [List.take_append_drop, h2.2] at b
    exact ⟨(Bool.and_eq_true _ _ ▸ a.symm).1, (Bool.and_eq_true _ _ ▸ b.symm).1⟩
  obtain ⟨r, hr, ho⟩ := pred_only.seq [] 4 (kids.take k) [q] q ht.1 ht.2 (Only.one q)
  have hL' : mkP.mkSeq [] (kids.take k) [q] = some L := hL
  rw [hr] at hL'
  injection hL' with hL'
  subst hL'
  have := ho.len
  omega
  where
  sub {S : Pl} : ∀ T, Slim.Sub S T → predP T = true → formP 4 T = true → predP S = true ∧ formP 4 S = true
  | .mk op f n kids, hs, hp, hf => by
    rw [Slim.Sub] at hs
    rcases hs with rfl | hs
    · exact ⟨hp, hf⟩
    · rw [formP_eq, Bool.and_eq_true] at hf
      by_cases h4 : op = 4
      · subst h4
        obtain ⟨k, rfl, h1, h2⟩ := kid_pred (parts := 4) (f := f) (n := n) (kids := kids) (by rw [formP_eq, Bool.and_eq_true]; exact hf)
        rw [Slim.subL, Slim.subL, or_false] at hs
        exact sub k hs h1 h2
      · rw [predP, Bool.or_eq_true, Bool.and_eq_true] at hp
        rcases hp with h | h
        · -- a leaf
          have hk : kids = [] := by
            have h1 := hf.1
            unfold nodeB at h1
            unfold opB at h
            simp only [Bool.or_eq_true, decide_eq_true_eq] at h
            rcases h with (((h | h) | h) | h) | h
            · rw [if_pos (.inl h)] at h1; simp at h1; exact h1.1
            · rw [if_pos (.inr h)] at h1; simp at h1; exact h1.1
            · subst h; simp at h1; exact h1.1
            · subst h; simp at h1; exact h1.1
            · exact absurd h h4
          subst hk
          rw [Slim.subL] at hs
          exact hs.elim
        · exact ofL kids hs h.2 hf.2
  ofL {S : Pl} : ∀ k, Slim.subL S k → predP.predL k = true → formP.formL 4 k = true → predP S = true ∧ formP 4 S = true
  | [], hs, _, _ => by rw [Slim.subL] at hs; exact hs.elim
  | p :: r, hs, hp, hf => by
    rw [predP.predL, Bool.and_eq_true] at hp
    rw [formP.formL, Bool.and_eq_true] at hf
    rw [Slim.subL] at hs
    rcases hs with h | h
    · exact sub p h hp.1 hf.1
    · exact ofL r h hp.2 hf.2
end Go.Proofs.Ytipiepcbgjceaaa
