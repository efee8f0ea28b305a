/- By which list of a table a packet goes, and what is made of it: merge.Lookup; rows of up to 500 acts. -/
import Derived.Test.YtbcikkofbdfmaaaZB
import Derived.Test.YtbcikkofbdfmaaaX4b
import Derived.Test.YtbcikkofbdfmaaaX6
set_option linter.unusedVariables false
set_option linter.unusedSimpArgs false
namespace Go.Proofs.Ytbcikkofbdfmaaa
open Go.RowKit Go.Joins Go.Sort

def LookIs (q : P8) (w' : World) (o : Option Lst) (e : Ending) : Prop := match o with
  | some X => ∃ u, e = .returned (.tuple #[u, .int .i64 0]) ∧ Pks w' u (lookL q X)
  | none => e = .returned (.tuple #[.slice none 0 0, .int .i64 31])
set_option maxRecDepth 100000 in
set_option maxHeartbeats 4000000 in
theorem look11_any (x y : Value) (t : Tab) (k : Nat) (hk : k ≤ 65535) (q : P8) (hs : ∀ X ∈ t.l, ∀ r ∈ X, r.a.length ≤ 500) (w : World) (h : TabAt w x y t) :
    Calls Try.prog 11 #[tv x y, .int .u16 (k : Int), q.v] w fun e w' => LookIs q w' (listM t k) e ∧ Below w.heap.size w w' := by
  have HB : Hid (Below w.heap.size w ((w.alloc (tob x y)).alloc (pob q))) := two_below w _ _
  have HX1 : Hid (((w.alloc (tob x y)).alloc (pob q)).heap[w.heap.size]? = some (tob x y)) := (((Below.refl _ _).alloc (Nat.le_refl _) (pob q)).block _ (heap_lt (heap_alloc_new w (tob x y)))).trans (heap_alloc_new w (tob x y))
  have HX2 : Hid (((w.alloc (tob x y)).alloc (pob q)).heap[w.heap.size + 1]? = some (pob q)) := by
    have h2 := heap_alloc_new (w.alloc (tob x y)) (pob q)
    rwa [alloc_size] at h2
  have cL := hid (list_any x y t k (by omega) w _ h HB.out)
  obtain ⟨⟨sa, sc, rfl, -⟩, ⟨ta, tc, rfl, -⟩⟩ := h
  have hw16 : IntKind.i64.wrap (k : Int) = (k : Int) := wr64 _ (by omega) (by omega)
  have HS : Hid (∀ X, listM t k = some X → ∀ r ∈ X, r.a.length ≤ 500) := fun X e => by
    unfold listM at e
    split at e
    · rename_i i hi
      split at e
      · injection e with e
        subst e
        rename_i hok
        unfold okI at hok
        simp at hok
        have hlt2 : i.toNat < t.l.length := by omega
        have : atI t i = t.l[i.toNat] := by unfold atI; rw [List.getD_eq_getElem?_getD, List.getElem?_eq_getElem hlt2]; rfl
        rw [this]
        exact hs _ (List.getElem_mem hlt2)
      · cases e
    · cases e
  clear hs
  cases hq : listM t k with
  | none =>
    rw [hq] at cL
    clear hq HS
    obtain ⟨⟨r0, r1, r2, r3, r4, r5, r6, r7⟩, -, -⟩ := row8 HX2.out
    obtain ⟨b0, b1⟩ := row2 HX1.out
    go_enter Try.func11, Try.ntmps11
    go_wp2_with fail
    refine cL.out.mono ?_
    rintro e w2 ⟨he, hb2⟩
    obtain rfl : e = .returned (.tuple #[.slice none 0 0, .bool false]) := he
    have HB2 := hid (HB.out.trans (hb2.mono HB.out.size))
    clear hb2 cL b0 b1 r0 r1 r2 r3 r4 r5 r6 r7
    go_wp2
    refine bodyPost_ret (v := .tuple #[.slice none 0 0, .int .i64 31]) (by simp [results, Try.results11, go_sem]) rfl ⟨rfl, HB2.out⟩
  | some X =>
    have HSX := hid (HS.out X hq)
    rw [hq] at cL
    clear hq HS
    obtain ⟨⟨r0, r1, r2, r3, r4, r5, r6, r7⟩, -, -⟩ := row8 HX2.out
    obtain ⟨b0, b1⟩ := row2 HX1.out
    go_enter Try.func11, Try.ntmps11
    go_wp2_with fail
    refine cL.out.mono ?_
    rintro e w2 ⟨⟨u, rfl, hu⟩, hb2⟩
    have HB2 := hid (HB.out.trans (hb2.mono HB.out.size))
    have HX3 := hid ((hb2.block _ (heap_lt HX2.out)).trans HX2.out)
    have cK := hid (look_any q u X HSX.out w2 (hu.below HB2.out))
    clear hb2 cL b0 b1 r0 r1 r2 r3 r4 r5 r6 r7
    obtain ⟨⟨r0, r1, r2, r3, r4, r5, r6, r7⟩, -, -⟩ := row8 HX3.out
    go_wp2_with fail
    refine cK.out.mono ?_
    rintro e w3 ⟨v, rfl, hv, hb3⟩
    have HB3 := hid (HB2.out.trans (hb3.mono HB2.out.size))
    have HV := hid hv
    clear hb3 cK hv r0 r1 r2 r3 r4 r5 r6 r7
    go_wp2
    refine bodyPost_ret (v := .tuple #[v, .int .i64 0]) (by simp [results, Try.results11, go_sem]) rfl ⟨⟨_, rfl, HV.out⟩, HB3.out⟩
end Go.Proofs.Ytbcikkofbdfmaaa
