/- What frame.Encode answers: the frame's bytes; numbers of sixteen bits, a digest of sixty-four. -/
import Derived.Test.YtaplnbofglljdaaA3
import Derived.Test.YtaplnbofglljdaaA4
import Derived.Laws.IdiomStrings
set_option linter.unusedVariables false
set_option linter.unusedSimpArgs false
namespace Go.Proofs.Ytaplnbofglljdaa
open Go.RowKit Go.Joins

theorem heap_lt {w : World} {g : Nat} {o : Obj} (h : w.heap[g]? = some o) : g < w.heap.size := (Array.getElem?_eq_some_iff.1 h).1
/-- The cells of a row of eleven. -/
theorem row11 {w : World} {g : Nat} {t : TypeId} {x0 x1 x2 x3 x4 x5 x6 x7 x8 x9 x10 : Value} (hg : w.heap[g]? = some (.cells #[x0, x1, x2, x3, x4, x5, x6, x7, x8, x9, x10] t)) :
    (w.cell? ⟨g, 0, none⟩ = some x0 ∧ w.cell? ⟨g, 1, none⟩ = some x1 ∧ w.cell? ⟨g, 2, none⟩ = some x2 ∧ w.cell? ⟨g, 3, none⟩ = some x3 ∧ w.cell? ⟨g, 4, none⟩ = some x4 ∧ w.cell? ⟨g, 5, none⟩ = some x5 ∧ w.cell? ⟨g, 6, none⟩ = some x6 ∧ w.cell? ⟨g, 7, none⟩ = some x7 ∧ w.cell? ⟨g, 8, none⟩ = some x8 ∧ w.cell? ⟨g, 9, none⟩ = some x9 ∧ w.cell? ⟨g, 10, none⟩ = some x10) ∧ g < w.heap.size := by
  have c := fun j => cell_of_row w g j _ _ _ hg
  refine ⟨⟨by simpa using c 0, by simpa using c 1, by simpa using c 2, by simpa using c 3, by simpa using c 4, by simpa using c 5, by simpa using c 6, by simpa using c 7, by simpa using c 8, by simpa using c 9, by simpa using c 10⟩, heap_lt hg⟩
/-- 'string(b)' of bytes of the call's own. -/
theorem conv_own {w : World} {base : Nat} {v : Value} {l : List UInt8} (h : w.ownsRow base 5 1 v l.length (bs l)) (h0 : 0 < l.length) :
    (convert 41 9 v).run Try.prog w = .ok (.string ⟨l.toArray⟩) w := by
  obtain ⟨g, cap, rfl⟩ := ownsRow_form h h0
  refine run_convert_bytes_back w 41 9 5 ⟨g, 0, none⟩ cap l Try.underlying41 Try.underlying5 Try.underlying9 (fun j hj => ?_)
  rw [Addr.add_lit, Nat.zero_add, h.cellAt j (by omega)]
  simp [bs, hj]
/-- What holds all through Encode: the bytes so far, the frame's own row. -/
structure ESt (w : World) (cs : Array Value) (v : Value) (acc : List UInt8) (wr : World) : Prop where
  own : wr.ownsRow (w.heap.size + 1) 5 1 v acc.length (bs acc)
  box : wr.heap[w.heap.size]? = some (.cells cs 28)
  bel : Below w.heap.size w wr
theorem ESt.size {w : World} {cs : Array Value} {v : Value} {acc : List UInt8} {wr : World} (h : ESt w cs v acc wr) : w.heap.size + 1 ≤ wr.heap.size := heap_lt h.box
theorem ESt.next {w : World} {cs : Array Value} {v v' : Value} {acc acc' : List UInt8} {wr w' : World} (h : ESt w cs v acc wr) (hb : Below (w.heap.size + 1) wr w') (ho : w'.ownsRow (w.heap.size + 1) 5 1 v' acc'.length (bs acc')) : ESt w cs v' acc' w' :=
  ⟨ho, by rw [hb.block _ (by omega)]; exact h.box, h.bel.trans (below_le hb (by omega))⟩
theorem ESt.app {w : World} {cs : Array Value} {v : Value} {acc : List UInt8} {wr : World} (h : ESt w cs v acc wr) (n size : Nat) (hl : acc.length ≤ 1000) (hs : size ≤ 8) :
    Calls Try.prog 15 #[v, .int .u64 n, .int .i64 size] wr fun e w' => ∃ v', e = .returned v' ∧ ESt w cs v' (acc ++ be size n) w' := by
  refine (append_any (w.heap.size + 1) v acc n size wr h.own h.size hl hs).mono ?_
  rintro e w' ⟨v', he, ho, _, hb⟩
  exact ⟨v', he, h.next hb (by simpa [be_length] using ho)⟩
theorem ESt.made (w : World) (cs : Array Value) {w1 : World} (hown : w1.ownsRow (w.heap.size + 1) 5 1 (.slice (some ⟨(w.alloc (.cells cs 28)).heap.size, 0, none⟩) 0 26) 0 []) (hg : (w.alloc (.cells cs 28)).grownBy w1 none) :
    ESt w cs (.slice (some ⟨w.heap.size + 1, 0, none⟩) 0 26) [] w1 :=
  ⟨by simpa [bs] using hown, by rw [hg.block _ (by simp) (by simp)]; exact heap_alloc_new _ _, ((Below.refl _ _).alloc (Nat.le_refl _) _).grown hg (by simp) (by simp)⟩
theorem ESt.far {w : World} {cs : Array Value} {v : Value} {acc : List UInt8} {wr : World} (h : ESt w cs v acc wr) : ∀ k, v.ownBlock = some k → w.heap.size + 1 ≤ k := fun k hk => (h.own.lt k hk).1
theorem ESt.grown2 {w : World} {cs : Array Value} {v v' : Value} {acc acc' : List UInt8} {wr w3 : World} {o1 o2 : Obj} (h : ESt w cs v acc wr) (hg : ((wr.alloc o1).alloc o2).grownBy w3 v.ownBlock) (ho : w3.ownsRow (w.heap.size + 1) 5 1 v' acc'.length (bs acc')) : ESt w cs v' acc' w3 :=
  h.next (Below.grown (((Below.refl _ _).alloc h.size _).alloc (by have := h.size; simp; omega) _) hg (by have := h.size; simp; omega) h.far) ho
theorem ESt.grown1 {w : World} {cs : Array Value} {v v' : Value} {acc acc' : List UInt8} {wr w3 : World} {o1 : Obj} (h : ESt w cs v acc wr) (hg : (wr.alloc o1).grownBy w3 v.ownBlock) (ho : w3.ownsRow (w.heap.size + 1) 5 1 v' acc'.length (bs acc')) : ESt w cs v' acc' w3 :=
  h.next (Below.grown ((Below.refl _ _).alloc h.size _) hg (by have := h.size; simp; omega) h.far) ho
theorem cell_list_new (w : World) (l : List Value) (t : TypeId) (n : Nat) (hn : n = w.heap.size) : ∀ j u, l[j]? = some u → (w.alloc (.cells l.toArray t)).cell? ((⟨n, 0, none⟩ : Addr).add j) = some u := by
  intro j u h
  subst hn
  rw [Addr.add_lit, Nat.zero_add, cell_of_row _ _ _ _ _ _ (heap_alloc_new w _)]
  simpa using h
def told (a2 a3 a4 a5 a6 a7 : Nat) : List Nat := [a2, a3, a4, a5, a6, a7]
def flat (l : List Nat) : List UInt8 := l.flatMap (be 2)

theorem told_lt {a0 a1 a2 a3 a4 a5 a6 a7 : Nat} {tg : Bool} {tag dg : Nat} (h : (⟨a0, a1, a2, a3, a4, a5, a6, a7, tg, tag, dg⟩ : Fr).ok) (k X : Nat) (hX : (told a2 a3 a4 a5 a6 a7)[k]? = some X) : X < 65536 := by
  obtain ⟨h0, h1, h2, h3, h4, h5, h6, h7, ht, hd⟩ := h
  have hm := List.mem_of_getElem? hX
  simp only [told, List.mem_cons, List.not_mem_nil, or_false] at hm
  rcases hm with rfl | rfl | rfl | rfl | rfl | rfl <;> assumption
theorem told_cell {w : World} {g : Nat} {a0 a1 a2 a3 a4 a5 a6 a7 : Nat} {tg : Bool} {tag dg : Nat} (h : w.heap[g]? = some (.cells #[.int .u16 a0, .int .u16 a1, .int .u16 a2, .int .u16 a3, .int .u16 a4, .int .u16 a5, .int .u16 a6, .int .u16 a7, .bool tg, .int .u16 tag, .int .u64 dg] 28)) (k X : Nat) (hX : (told a2 a3 a4 a5 a6 a7)[k]? = some X) :
    w.cell? ⟨g, 2 + k, none⟩ = some (.int .u16 (X : Int)) := by
  rw [cell_of_row _ _ _ _ _ _ h]
  have hk : k < 6 := (List.getElem?_eq_some_iff.1 hX).1
  match k, hk with
  | 0, _ => simp [told] at hX; subst hX; rfl
  | 1, _ => simp [told] at hX; subst hX; rfl
  | 2, _ => simp [told] at hX; subst hX; rfl
  | 3, _ => simp [told] at hX; subst hX; rfl
  | 4, _ => simp [told] at hX; subst hX; rfl
  | 5, _ => simp [told] at hX; subst hX; rfl
theorem flat_length (l : List Nat) : (flat l).length = 2 * l.length := by
  induction l with
  | nil => rfl
  | cons a l ih => simp only [flat, List.flatMap_cons, List.length_append, be_length, List.length_cons] at *; omega
theorem flat_small (t : Bool) (l : List Nat) (k : Nat) (hl : l.length ≤ 6) : ([78, kindB t] ++ flat (l.take k)).length ≤ 1000 := by
  rw [List.length_append, flat_length]; simp; omega
theorem flat_snoc (l : List Nat) (k X : Nat) (h : l[k]? = some X) : flat (l.take (k + 1)) = flat (l.take k) ++ be 2 X := by
  obtain ⟨hk, rfl⟩ := List.getElem?_eq_some_iff.1 h
  rw [List.take_succ_eq_append_getElem hk]
  simp only [flat, List.flatMap_append, List.flatMap_cons, List.flatMap_nil, List.append_nil]
theorem body_bare (a0 a1 a2 a3 a4 a5 a6 a7 tag dg : Nat) : [78, kindB false] ++ flat ((told a2 a3 a4 a5 a6 a7).take 6) = bodyOf ⟨a0, a1, a2, a3, a4, a5, a6, a7, false, tag, dg⟩ := by
  simp only [bodyOf, flat, told, List.take_succ_cons, List.take_zero, List.flatMap_cons, List.flatMap_nil, Bool.false_eq_true, if_false, List.append_nil, List.cons_append, List.nil_append, List.append_assoc]
theorem body_tagged (a0 a1 a2 a3 a4 a5 a6 a7 tag dg : Nat) : [78, kindB true] ++ flat ((told a2 a3 a4 a5 a6 a7).take 6) ++ be 2 tag ++ be 8 dg = bodyOf ⟨a0, a1, a2, a3, a4, a5, a6, a7, true, tag, dg⟩ := by
  simp only [bodyOf, flat, told, List.take_succ_cons, List.take_zero, List.flatMap_cons, List.flatMap_nil, if_true, List.append_nil, List.cons_append, List.nil_append, List.append_assoc]
set_option maxRecDepth 100000 in
set_option maxHeartbeats 1000000 in
theorem encode_any (a0 a1 a2 a3 a4 a5 a6 a7 : Nat) (tg : Bool) (tag dg : Nat) (w : World) (hok : (⟨a0, a1, a2, a3, a4, a5, a6, a7, tg, tag, dg⟩ : Fr).ok) :
    Calls Try.prog 7 #[frv a0 a1 a2 a3 a4 a5 a6 a7 tg tag dg] w fun e w' => e = .returned (.string ⟨(encOf ⟨a0, a1, a2, a3, a4, a5, a6, a7, tg, tag, dg⟩).toArray⟩) ∧ Below w.heap.size w w' := by
  obtain ⟨i0, hi, hz0, hz1, hz2⟩ := info5
  have HK : Hid ((⟨a0, a1, a2, a3, a4, a5, a6, a7, tg, tag, dg⟩ : Fr).ok) := hok
  clear hok
  obtain ⟨E, hE⟩ : ∃ E, encOf ⟨a0, a1, a2, a3, a4, a5, a6, a7, tg, tag, dg⟩ = E := ⟨_, rfl⟩
  have HE : Hid (encOf ⟨a0, a1, a2, a3, a4, a5, a6, a7, tg, tag, dg⟩ = E) := hE
  rw [hE]
  clear hE
  unfold frv frc
  go_enter Try.func7, Try.ntmps7
  go_wp2_with (first
    | (at_make; refine wpList_make_own _ rfl _ _ 41 rfl (w.heap.size + 1) 5 i0 (.int .u8 0) 1 Try.underlying41 hi hz0 hz1 _ _ _ 26 rfl rfl (by rfl) (by rw [hz2]; omega) (by unfold maxLen; omega) (by simp) ?_; intro w1 hown1 hgrow1; have HS1 : Hid (ESt w _ _ [] w1) := ESt.made w _ hown1 hgrow1; clear hown1 hgrow1; obtain ⟨⟨q0, q1, q2, q3, q4, q5, q6, q7, q8, q9, q10⟩, hsz⟩ := row11 HS1.out.box)
    | (go_at_call 14; refine (kindOf_any _ _ _ _ _ _ _ _ _ _ _ _).mono ?_; rintro e w2 ⟨rfl, rfl⟩)
    | (at_builtin; refine wpList_append_own _ rfl _ _ 41 rfl (w.heap.size + 1) 5 i0 (.int .u8 0) 1 1 Try.underlying41 hi hz0 hz1 hz2 rfl (by decide) _ _ _ rfl ((HS1.out.own.alloc _).alloc _) ⟨w1.heap.size + 1, 0, none⟩ 2 2 [.int .u8 78, .int .u8 ((kindB tg).toNat : Int)] rfl rfl (cell_list_new _ _ _ _ (by simp)) (fun x hx => by simp at hx; rcases hx with rfl | rfl <;> rfl) (by unfold maxLen; simp) (by simp) (by simp; omega) ?_; intro v3 w3 hown3 hgrow3 hnil3; have HS3 : Hid (ESt w _ v3 [78, kindB tg] w3) := HS1.out.grown2 hgrow3 (by simpa [bs] using hown3); clear hown3 hgrow3 hnil3 HS1 q0 q1 q2 q3 q4 q5 q6 q7 q8 q9 q10 hsz; obtain ⟨⟨q0, q1, q2, q3, q4, q5, q6, q7, q8, q9, q10⟩, hsz⟩ := row11 HS3.out.box))
  clear q0 q1 q2 q3 q4 q5 q6 q7 q8 q9 q10
  go_loopw [3, 15] (fun v i wr => ∃ k : Nat, k ≤ 6 ∧ i = .int .i64 k ∧ Hid (ESt w #[.int .u16 a0, .int .u16 a1, .int .u16 a2, .int .u16 a3, .int .u16 a4, .int .u16 a5, .int .u16 a6, .int .u16 a7, .bool tg, .int .u16 tag, .int .u64 dg] v ([78, kindB tg] ++ flat ((told a2 a3 a4 a5 a6 a7).take k)) wr)) (fun _ i _ => 6 - (intOf i).toNat)
  case atStart => exact ⟨0, Nat.zero_le _, rfl, HS3⟩
  case round =>
    obtain ⟨k, hk, rfl, HS⟩ := hrel
    clear HS3 hsz
    by_cases hlt : k < 6
    · obtain ⟨X, hX⟩ : ∃ X, (told a2 a3 a4 a5 a6 a7)[k]? = some X := ⟨_, List.getElem?_eq_getElem (by simpa [told] using hlt)⟩
      have hX6 : X < 65536 := told_lt HK.out k X hX
      have hc : wr.cell? ⟨w.heap.size, 2 + k, none⟩ = some (.int .u16 (X : Int)) := told_cell HS.out.box k X hX
      have HX : Hid ((told a2 a3 a4 a5 a6 a7)[k]? = some X) := hX
      clear hX
      go_wp2_with (go_at_call 15; refine (HS.out.app X 2 (flat_small _ _ k (by simp [told])) (by decide)).mono ?_; rintro e w4 ⟨v4, rfl, hS4⟩; have HS4 : Hid (ESt w _ v4 _ w4) := hS4; clear hS4)
      refine ⟨⟨k + 1, by omega, by go_num, ?_⟩, by simp [intOf]; omega⟩
      show ESt w _ v4 _ w4
      rw [flat_snoc _ _ _ HX.out, ← List.append_assoc]
      exact HS4.out
    · have hk6 : k = 6 := by omega
      subst hk6
      obtain ⟨⟨q0, q1, q2, q3, q4, q5, q6, q7, q8, q9, q10⟩, hsz⟩ := row11 HS.out.box
      have ht6 : tag < 65536 := HK.out.ht
      have hd6 : dg < 18446744073709551616 := HK.out.hd
      cases tg
      · rw [body_bare a0 a1 a2 a3 a4 a5 a6 a7 tag dg] at HS
        have hlen := bodyOf_length ⟨a0, a1, a2, a3, a4, a5, a6, a7, false, tag, dg⟩
        have HE2 : Hid (bodyOf ⟨a0, a1, a2, a3, a4, a5, a6, a7, false, tag, dg⟩ ++ be 2 (chk (bodyOf ⟨a0, a1, a2, a3, a4, a5, a6, a7, false, tag, dg⟩)) = E) := HE.out
        generalize bodyOf ⟨a0, a1, a2, a3, a4, a5, a6, a7, false, tag, dg⟩ = B at *
        have hlB : Hid (B.length = 14) := hlen
        clear hlen HE
        have hcv := conv_own HS.out.own (by rw [hlB.out]; decide)
        go_wp2_with (first
          | (go_at_call 16; refine (check_list B _ (by rw [hlB.out]; decide)).mono ?_; rintro e wX ⟨rfl, hwX⟩; subst wX)
          | (go_at_call 15; refine (HS.out.app (chk B) 2 (by rw [hlB.out]; decide) (by decide)).mono ?_; rintro e w4 ⟨v4, rfl, hS4⟩; have HS4 : Hid (ESt w _ v4 _ w4) := hS4; clear hS4; have hcv2 := conv_own HS4.out.own (by rw [List.length_append, hlB.out]; omega)))
        go_ret
        exact ⟨by rw [← HE2.out]; rfl, HS4.out.bel⟩
      · have hb1 : Hid ([78, kindB true] ++ flat ((told a2 a3 a4 a5 a6 a7).take 6) ++ be 2 tag ++ be 8 dg = bodyOf ⟨a0, a1, a2, a3, a4, a5, a6, a7, true, tag, dg⟩) := body_tagged a0 a1 a2 a3 a4 a5 a6 a7 tag dg
        have hlen := bodyOf_length ⟨a0, a1, a2, a3, a4, a5, a6, a7, true, tag, dg⟩
        have HE2 : Hid (bodyOf ⟨a0, a1, a2, a3, a4, a5, a6, a7, true, tag, dg⟩ ++ be 2 (chk (bodyOf ⟨a0, a1, a2, a3, a4, a5, a6, a7, true, tag, dg⟩)) = E) := HE.out
        have hA : Hid (([78, kindB true] ++ flat ((told a2 a3 a4 a5 a6 a7).take 6)).length = 14) := by
          show _ = _
          rw [List.length_append, flat_length]; rfl
        generalize bodyOf ⟨a0, a1, a2, a3, a4, a5, a6, a7, true, tag, dg⟩ = B at *
        generalize [78, kindB true] ++ flat ((told a2 a3 a4 a5 a6 a7).take 6) = A at *
        have hlB : Hid (B.length = 24) := hlen
        clear hlen HE
        go_wp2_with fail
        refine (HS.out.app tag 2 (by rw [hA.out]; decide) (by decide)).mono ?_
        rintro e w4 ⟨v4, rfl, hS4⟩
        have HS4 : Hid (ESt w _ v4 _ w4) := hS4
        clear hS4 q0 q1 q2 q3 q4 q5 q6 q7 q8 q9 q10 hsz
        obtain ⟨⟨q0, q1, q2, q3, q4, q5, q6, q7, q8, q9, q10⟩, hsz⟩ := row11 HS4.out.box
        have hA4 : Hid ((A ++ be 2 tag).length = 16) := by show _ = _; rw [List.length_append, hA.out, be_length]
        clear HS hA HK hd6 ht6
        go_wp2_with fail
        refine (HS4.out.app dg 8 (by rw [hA4.out]; decide) (by decide)).mono ?_
        rintro e w5 ⟨v5, rfl, hS5⟩
        rw [hb1.out] at hS5
        have HS5 : Hid (ESt w _ v5 _ w5) := hS5
        have hcv := conv_own hS5.own (by rw [hlB.out]; decide)
        clear hS5 HS4 q0 q1 q2 q3 q4 q5 q6 q7 q8 q9 q10 hsz
        go_wp2_with fail
        refine (check_list B _ (by rw [hlB.out]; decide)).mono ?_
        rintro e wX ⟨rfl, hwX⟩
        subst wX
        clear hcv
        go_wp2_with fail
        refine (HS5.out.app (chk B) 2 (by rw [hlB.out]; decide) (by decide)).mono ?_
        rintro e w6 ⟨v6, rfl, hS6⟩
        have HS6 : Hid (ESt w _ v6 _ w6) := hS6
        have hcv2 := conv_own hS6.own (by rw [List.length_append, hlB.out]; omega)
        clear hS6 HS5
        go_wp2_with fail
        go_ret
        exact ⟨by rw [← HE2.out]; rfl, HS6.out.bel⟩
end Go.Proofs.Ytaplnbofglljdaa
