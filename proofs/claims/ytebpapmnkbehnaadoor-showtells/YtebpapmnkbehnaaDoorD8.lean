/- What the document's Pol answers: a policy's text, and the empty text of one that isn't well formed with four parts; numbers of 16 bits. -/
import Derived.Test.YtebpapmnkbehnaaDoorD5
import Derived.Test.YtebpapmnkbehnaaDoorV7
import Derived.Test.YtebpapmnkbehnaaDoorR5
import Derived.Deep.RegionWith
set_option linter.unusedVariables false
set_option linter.unusedSimpArgs false
namespace Go.Proofs.YtebpapmnkbehnaaDoor
open Go.RowKit Go.Joins Go.Lib Go.Sort

abbrev o4 : Obj := .cells #[.int .u16 0, .int .u16 0, .int .u16 0, .int .u16 0] 26
theorem run_make4 (w : World) : (Instr.makeSlice 22 (.int .i64 4) (.int .i64 4)).run Tryd.prog w = .ok (.slice (some ⟨w.heap.size, 0, none⟩) 4 4) (w.alloc o4) := by
  obtain ⟨i0, hi, hz0, hz1, hz2⟩ := info_parts info26s
  have hmk := run_make (P := Tryd.prog) w 22 26 i0 (.int .u16 0) Tryd.underlying22 hi hz0 .i64 .i64 4 4 (by decide) (by decide) (by rw [hz2]; decide) (by decide)
  have e1 : madeCells (Value.int .u16 0).cells ((4 : Int).toNat * i0.size) = #[.int .u16 0, .int .u16 0, .int .u16 0, .int .u16 0] := by rw [hz1]; kernel_rfl
  rw [e1] at hmk
  exact hmk

set_option maxRecDepth 100000 in
set_option maxHeartbeats 4000000 in
theorem rpol_any {P : Nat → Prop} (T : Pl) (x : Nd) (hs : sizeP T ≤ 100000) (hn : okN T) (w : World) (hp : PolAt P w T x) :
    Calls Tryd.prog 8 #[nv x] w fun e w' => e = .returned (.string ⟨(polT T).toArray⟩) ∧ Below w.heap.size w w' := by
  have hb0 : Below w.heap.size w (w.alloc (pobj x)) := (Below.refl _ w).alloc (Nat.le_refl _) (pobj x)
  have hbd : Below w.heap.size w (w.alloc (pobj x)).drew := below_drewN hb0 1
  have hsz : (w.alloc (pobj x)).drew.heap.size = w.heap.size + 1 := by simp [World.drew]
  have hmk := run_make4 (w.alloc (pobj x)).drew
  rw [hsz] at hmk
  have HB2 : Hid (Below w.heap.size w ((w.alloc (pobj x)).drew.alloc o4)) := hbd.alloc (by rw [hsz]; omega) _
  have HW2 : Hid (((w.alloc (pobj x)).drew.alloc o4).heap[w.heap.size]? = some (pobj x)) := (Below.heap_alloc _ _ _ (by rw [hsz]; omega)).trans (heap_alloc_new w _)
  have HWd : Hid ((w.alloc (pobj x)).drew.heap[w.heap.size]? = some (pobj x)) := heap_alloc_new w _
  have hsh : PgShort ⟨[0, 0, 0, 0], T, []⟩ := ⟨by simp, hs, by simp, fun r hr => by cases hr⟩
  have cC := rcheck_any (P := P) ⟨[0, 0, 0, 0], T, []⟩ (.slice (some ⟨w.heap.size + 1, 0, none⟩) 4 4) x (.slice none 0 0) hsh ((w.alloc (pobj x)).drew.alloc o4) ⟨⟨_, _, rfl⟩, hp.below HB2.out, rules_none P _⟩
  have HT : Hid (checkM ⟨[0, 0, 0, 0], T, []⟩ = 0 → ∀ W, Below w.heap.size w W → Calls Tryd.prog 17 #[nv x] W fun e w' => e = .returned (.string ⟨(textP T).toArray⟩) ∧ Below W.heap.size W w') := fun h W hW =>
    rtext_any 4 (by decide) 300 T x W (form4 h).2 (by decide) (form4 h).1 hn (hp.below hW)
  obtain ⟨-, -, -, sk, skc, hkv⟩ := hp.shape
  obtain ⟨xo, xf, xn, xk⟩ := x
  dsimp only at hkv
  subst hkv
  generalize T.kids.length = kn at *
  clear hp hb0 hs hn hbd hsh hsz
  obtain ⟨q0, q1, q2, q3⟩ := row4 HWd.out
  obtain ⟨p0, p1, p2, p3⟩ := row4 HW2.out
  unfold polT
  have hcl := sh_check_lt ⟨[0, 0, 0, 0], T, []⟩
  generalize checkM ⟨[0, 0, 0, 0], T, []⟩ = cv at *
  by_cases hc0 : cv = 0
  · subst hc0
    rw [if_pos rfl]
    have HT2 : Hid _ := HT.out rfl
    clear HT
    go_enter Tryd.func8, Tryd.ntmps8
    go_wp2_with fail
    go_region_with (go_at_call 16; refine cC.mono ?_; rintro e w2 ⟨rfl, hb2⟩; have HB3 : Hid (Below w.heap.size w w2) := HB2.out.trans (hb2.mono HB2.out.size); have HR2 : Hid (w2.heap[w.heap.size]? = some (pobj ⟨xo, xf, xn, .slice sk kn skc⟩)) := (hb2.block _ (heap_lt HW2.out)).trans HW2.out; clear hb2)
    all_goals
      obtain ⟨r0, r1, r2, r3⟩ := row4 HR2.out
      go_wp2_with fail
      refine (HT2.out _ HB3.out).mono ?_
      rintro e w3 ⟨rfl, hb3⟩
      have HB4 : Hid (Below w.heap.size w w3) := HB3.out.trans (hb3.mono HB3.out.size)
      clear hb3 r0 r1 r2 r3
      go_wp2
      go_ret
      exact ⟨rfl, HB4.out⟩
  · rw [if_neg hc0]
    have d0 : ((cv : Int) != 0) = true := by simp; omega
    clear HT
    go_enter Tryd.func8, Tryd.ntmps8
    go_wp2_with fail
    go_region_with (go_at_call 16; refine cC.mono ?_; rintro e w2 ⟨rfl, hb2⟩; have HB3 : Hid (Below w.heap.size w w2) := HB2.out.trans (hb2.mono HB2.out.size); clear hb2)
    all_goals
      go_wp2
      go_ret
      exact ⟨rfl, HB3.out⟩
end Go.Proofs.YtebpapmnkbehnaaDoor
