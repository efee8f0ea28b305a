/- What the document's text answers: a policy's text; policies that are well formed, of up to 600 nodes, numbers of 16 bits. -/
import Derived.Test.YtebpapmnkbehnaaDoorD1
import Derived.Test.YtebpapmnkbehnaaDoorK7
set_option linter.unusedVariables false
set_option linter.unusedSimpArgs false
namespace Go.Proofs.YtebpapmnkbehnaaDoor
open Go.RowKit Go.Joins Go.Lib Go.Sort

/-- What lies where kids are shown by the document. -/
structure KidD (w : World) (sa : Option Addr) (kids : List Pl) (k : Nat) (hk : k < kids.length) : Prop where
  ex : ∃ b off sa2 n2 sc2 y0 y1 y2, sa = some ⟨b, off, none⟩ ∧ b < w.heap.size ∧ At4 w b (off + k * 4) ⟨y0, y1, y2, .slice sa2 n2 sc2⟩ ∧ y0 = kids[k].op ∧ (textP kids[k]).length ≤ 10000 ∧ ∀ W, Below w.heap.size w W → Calls Tryd.prog 17 #[nv ⟨y0, y1, y2, .slice sa2 n2 sc2⟩] W fun e w' => e = .returned (.string ⟨(textP kids[k]).toArray⟩) ∧ Below W.heap.size W w'
theorem parts_short {w : World} {sa : Option Addr} {kids : List Pl} (op : Int) (hk : ∀ k (hk : k < kids.length), KidD w sa kids k hk) : ∀ x ∈ textP.partsT op kids, x.length ≤ 10002 := by
  intro x hx
  obtain ⟨i, hi, rfl⟩ := List.getElem_of_mem hx
  have hi' : i < kids.length := by rw [← partsT_len op kids]; exact hi
  rw [partsT_get op kids i hi']
  obtain ⟨b, off, sa2, n2, sc2, y0, y1, y2, e, hb, ha, hop, hle, hc⟩ := (hk i hi').ex
  have := wrapB_le (opW op kids[i]) (textP kids[i])
  omega

set_option maxRecDepth 100000 in
set_option maxHeartbeats 8000000 in
theorem rtext_many6 (f : Int) (N : Nat) (hN : N ≤ 65535) (sa : Option Addr) (sc : Nat) (kids : List Pl) (h2 : 2 ≤ kids.length) (hm : kids.length ≤ 600) (w : World) (hk : ∀ k (hk : k < kids.length), KidD w sa kids k hk) :
    Calls Tryd.prog 17 #[nv ⟨6, f, N, .slice sa kids.length sc⟩] w fun e w' => e = .returned (.string ⟨(joinS [32, 59, 32] (textP.partsT 6 kids)).toArray⟩) ∧ Below w.heap.size w w' := by
  have HB0 : Hid (Below w.heap.size w (w.alloc (pobj ⟨6, f, (N : Int), .slice sa kids.length sc⟩))) := (Below.refl _ w).alloc (Nat.le_refl _) _
  have HR0 : Hid ((w.alloc (pobj ⟨6, f, (N : Int), .slice sa kids.length sc⟩)).heap[w.heap.size]? = some (pobj ⟨6, f, (N : Int), .slice sa kids.length sc⟩)) := heap_alloc_new w _
  have cD := digits_any N hN (w.alloc (pobj ⟨6, f, (N : Int), .slice sa kids.length sc⟩))
  have hps := parts_short 6 hk
  have HL : Hid (∀ k, (joinS [32, 59, 32] ((textP.partsT 6 kids).take k)).length ≤ 600 * 10005) := fun k => by
    have h1 := joinS_take_le [32, 59, 32] 10002 (textP.partsT 6 kids) k hps
    rw [partsT_len] at h1
    exact Nat.le_trans h1 (Nat.mul_le_mul_right _ hm)
  have HK : Hid _ := hk
  clear hk hps
  go_enter Tryd.func17, Tryd.ntmps17
  go_wp2_with fail
  refine cD.mono ?_
  rintro e w1 ⟨rfl, hb1⟩
  have HB1 : Hid (Below w.heap.size w w1) := HB0.out.trans (hb1.mono HB0.out.size)
  have HR1 : Hid (w1.heap[w.heap.size]? = some (pobj ⟨6, f, (N : Int), .slice sa kids.length sc⟩)) := (hb1.block _ (heap_lt HR0.out)).trans HR0.out
  obtain ⟨q0, q1, q2, q3⟩ := row4 HR1.out
  clear hb1 cD HB0 HR0
  go_wp2_with fail
  clear q0 q1 q2 q3
  go_loopw [4, 5] (fun o i wr => ∃ k : Nat, k ≤ kids.length ∧ i = .int .i64 (k : Int) ∧ o = .string ⟨(joinS [32, 59, 32] ((textP.partsT 6 kids).take k)).toArray⟩ ∧ Hid (Below w.heap.size w wr) ∧ Hid (wr.heap[w.heap.size]? = some (pobj ⟨6, f, (N : Int), .slice sa kids.length sc⟩))) (fun _ i _ => kids.length - (intOf i).toNat)
  case atStart => exact ⟨0, Nat.zero_le _, rfl, by simp [joinS], HB1, HR1⟩
  case round =>
    clear HB1 HR1
    obtain ⟨k, hkl, rfl, rfl, HB, HR⟩ := hrel
    obtain ⟨q0, q1, q2, q3⟩ := row4 HR.out
    have hwr := HB.out.size
    have hja := HL.out k
    by_cases hlt : k < kids.length
    · obtain ⟨b, off, sa2, n2, sc2, y0, y1, y2, rfl, hb, ha, hop, hle, hc⟩ := (HK.out k hlt).ex
      obtain ⟨a0, a1, a2, a3⟩ := ha.same (HB.out.block b hb)
      have hlp : k < (textP.partsT 6 kids).length := by rw [partsT_len]; exact hlt
      have hwl := wrapB_le (opW 6 kids[k]) (textP kids[k])
      have HPg : Hid ((textP.partsT 6 kids)[k] = wrapB (opW 6 kids[k]) (textP kids[k])) := partsT_get 6 kids k hlt hlp
      have c35 : Hid (∀ d os, Calls Tryd.prog 35 #[nv ⟨y0, y1, y2, .slice sa2 n2 sc2⟩, .bool false] (grow (redrawn wr d) os) fun e w'' => e = .returned (.string ⟨(wrapB (opW 6 kids[k]) (textP kids[k])).toArray⟩) ∧ ∃ p : Regrown, w'' = grow (redrawn wr p.d) p.os) :=
        fun d os => Calls.regrown_of (rwithin_any false y0 y1 y2 sa2 n2 sc2 kids[k] hop (by omega) _ fun W' hW' => hc W' (HB.out.trans (((below_regrown wr d os).trans (hW'.mono (below_regrown wr d os).size)).mono hwr)))
      generalize wrapB (opW 6 kids[k]) (textP kids[k]) = X at *
      have hXl : X.length ≤ 10002 := by omega
      clear hwl hop hc ha hle
      by_cases hk0 : k = 0
      · have dk : decide (0 < k) = false := by simp; omega
        have HJ : Hid (joinS [32, 59, 32] ((textP.partsT 6 kids).take (k + 1)) = X) := by
          show _ = _
          rw [← HPg.out]
          subst hk0
          exact joinS_first _ _ hlp
        have HJ0 : Hid (joinS [32, 59, 32] ((textP.partsT 6 kids).take k) = []) := by show _ = _; rw [hk0]; simp [joinS]
        rw [HJ0.out]
        clear hja HPg hk0
        go_wp2_with fail
        have s0 := cell_regrown q0; have s3 := cell_regrown q3
        have t0 := cell_regrown a0; have t1 := cell_regrown a1; have t2 := cell_regrown a2; have t3 := cell_regrown a3
        refine wp_region_quiet_below (by kernel_rfl) (by kernel_rfl) ?_
        repeat (go_big_quiet_step (first | (go_at_call 35; exact c35.out _ _)))
        refine wpQuiet_nil ?_
        intro _ hw'
        obtain ⟨⟨dq, osq⟩, hw''⟩ := hw'
        subst hw''
        have hbE := below_regrown wr dq osq
        have HBE : Hid (Below w.heap.size w (grow (redrawn wr dq) osq)) := HB.out.trans (hbE.mono hwr)
        have HE1 : Hid ((grow (redrawn wr dq) osq).heap[w.heap.size]? = some (pobj ⟨6, f, (N : Int), .slice (some ⟨b, off, none⟩) kids.length sc⟩)) := (hbE.block _ (heap_lt HR.out)).trans HR.out
        clear s0 s3 t0 t1 t2 t3 c35 HB HR hbE q0 q1 q2 q3 a0 a1 a2 a3
        generalize (grow (redrawn wr dq) osq) = WE at *
        go_wp2
        go_roundw
        case rel => exact ⟨k + 1, by omega, by go_num, by rw [HJ.out]; exact congrArg Value.string (sh_cat [] X), HBE, HE1⟩
        case measure => simp [intOf]; omega
      · have hkp : 0 < k := by omega
        have dk : decide (0 < k) = true := by simp; omega
        have HJ : Hid (joinS [32, 59, 32] ((textP.partsT 6 kids).take (k + 1)) = joinS [32, 59, 32] ((textP.partsT 6 kids).take k) ++ ([32, 59, 32] ++ X)) := by show _ = _; rw [joinS_next _ _ k hlp hkp, HPg.out]
        generalize joinS [32, 59, 32] ((textP.partsT 6 kids).take k) = acc at *
        clear HPg
        go_wp2_with fail
        have s0 := cell_regrown q0; have s3 := cell_regrown q3
        have t0 := cell_regrown a0; have t1 := cell_regrown a1; have t2 := cell_regrown a2; have t3 := cell_regrown a3
        refine wp_region_quiet_below (by kernel_rfl) (by kernel_rfl) ?_
        repeat (go_big_quiet_step (first | (go_at_call 35; exact c35.out _ _)))
        refine wpQuiet_nil ?_
        intro _ hw'
        obtain ⟨⟨dq, osq⟩, hw''⟩ := hw'
        subst hw''
        have hbE := below_regrown wr dq osq
        have HBE : Hid (Below w.heap.size w (grow (redrawn wr dq) osq)) := HB.out.trans (hbE.mono hwr)
        have HE1 : Hid ((grow (redrawn wr dq) osq).heap[w.heap.size]? = some (pobj ⟨6, f, (N : Int), .slice (some ⟨b, off, none⟩) kids.length sc⟩)) := (hbE.block _ (heap_lt HR.out)).trans HR.out
        clear s0 s3 t0 t1 t2 t3 c35 HB HR hbE q0 q1 q2 q3 a0 a1 a2 a3
        generalize (grow (redrawn wr dq) osq) = WE at *
        go_wp2
        go_roundw
        case rel => exact ⟨k + 1, by omega, by go_num, by rw [HJ.out, ← List.append_assoc, ← sh_cat, ← sh_cat], HBE, HE1⟩
        case measure => simp [intOf]; omega
    · obtain rfl : k = kids.length := by omega
      have HT : Hid ((textP.partsT 6 kids).take kids.length = textP.partsT 6 kids) := by show _ = _; rw [← partsT_len 6 kids]; exact List.take_length
      clear hja
      go_wp2
      go_ret
      exact ⟨by rw [HT.out]; rfl, HB.out⟩


set_option maxRecDepth 100000 in
set_option maxHeartbeats 8000000 in
theorem rtext_many7 (f : Int) (N : Nat) (hN : N ≤ 65535) (sa : Option Addr) (sc : Nat) (kids : List Pl) (h2 : 2 ≤ kids.length) (hm : kids.length ≤ 600) (w : World) (hk : ∀ k (hk : k < kids.length), KidD w sa kids k hk) :
    Calls Tryd.prog 17 #[nv ⟨7, f, N, .slice sa kids.length sc⟩] w fun e w' => e = .returned (.string ⟨(joinS [32, 43, 32] (textP.partsT 7 kids)).toArray⟩) ∧ Below w.heap.size w w' := by
  have HB0 : Hid (Below w.heap.size w (w.alloc (pobj ⟨7, f, (N : Int), .slice sa kids.length sc⟩))) := (Below.refl _ w).alloc (Nat.le_refl _) _
  have HR0 : Hid ((w.alloc (pobj ⟨7, f, (N : Int), .slice sa kids.length sc⟩)).heap[w.heap.size]? = some (pobj ⟨7, f, (N : Int), .slice sa kids.length sc⟩)) := heap_alloc_new w _
  have cD := digits_any N hN (w.alloc (pobj ⟨7, f, (N : Int), .slice sa kids.length sc⟩))
  have hps := parts_short 7 hk
  have HL : Hid (∀ k, (joinS [32, 43, 32] ((textP.partsT 7 kids).take k)).length ≤ 600 * 10005) := fun k => by
    have h1 := joinS_take_le [32, 43, 32] 10002 (textP.partsT 7 kids) k hps
    rw [partsT_len] at h1
    exact Nat.le_trans h1 (Nat.mul_le_mul_right _ hm)
  have HK : Hid _ := hk
  clear hk hps
  go_enter Tryd.func17, Tryd.ntmps17
  go_wp2_with fail
  refine cD.mono ?_
  rintro e w1 ⟨rfl, hb1⟩
  have HB1 : Hid (Below w.heap.size w w1) := HB0.out.trans (hb1.mono HB0.out.size)
  have HR1 : Hid (w1.heap[w.heap.size]? = some (pobj ⟨7, f, (N : Int), .slice sa kids.length sc⟩)) := (hb1.block _ (heap_lt HR0.out)).trans HR0.out
  obtain ⟨q0, q1, q2, q3⟩ := row4 HR1.out
  clear hb1 cD HB0 HR0
  go_wp2_with fail
  clear q0 q1 q2 q3
  go_loopw [4, 5] (fun o i wr => ∃ k : Nat, k ≤ kids.length ∧ i = .int .i64 (k : Int) ∧ o = .string ⟨(joinS [32, 43, 32] ((textP.partsT 7 kids).take k)).toArray⟩ ∧ Hid (Below w.heap.size w wr) ∧ Hid (wr.heap[w.heap.size]? = some (pobj ⟨7, f, (N : Int), .slice sa kids.length sc⟩))) (fun _ i _ => kids.length - (intOf i).toNat)
  case atStart => exact ⟨0, Nat.zero_le _, rfl, by simp [joinS], HB1, HR1⟩
  case round =>
    clear HB1 HR1
    obtain ⟨k, hkl, rfl, rfl, HB, HR⟩ := hrel
    obtain ⟨q0, q1, q2, q3⟩ := row4 HR.out
    have hwr := HB.out.size
    have hja := HL.out k
    by_cases hlt : k < kids.length
    · obtain ⟨b, off, sa2, n2, sc2, y0, y1, y2, rfl, hb, ha, hop, hle, hc⟩ := (HK.out k hlt).ex
      obtain ⟨a0, a1, a2, a3⟩ := ha.same (HB.out.block b hb)
      have hlp : k < (textP.partsT 7 kids).length := by rw [partsT_len]; exact hlt
      have hwl := wrapB_le (opW 7 kids[k]) (textP kids[k])
      have HPg : Hid ((textP.partsT 7 kids)[k] = wrapB (opW 7 kids[k]) (textP kids[k])) := partsT_get 7 kids k hlt hlp
      have c35 : Hid (∀ d os, Calls Tryd.prog 35 #[nv ⟨y0, y1, y2, .slice sa2 n2 sc2⟩, .bool true] (grow (redrawn wr d) os) fun e w'' => e = .returned (.string ⟨(wrapB (opW 7 kids[k]) (textP kids[k])).toArray⟩) ∧ ∃ p : Regrown, w'' = grow (redrawn wr p.d) p.os) :=
        fun d os => Calls.regrown_of (rwithin_any true y0 y1 y2 sa2 n2 sc2 kids[k] hop (by omega) _ fun W' hW' => hc W' (HB.out.trans (((below_regrown wr d os).trans (hW'.mono (below_regrown wr d os).size)).mono hwr)))
      generalize wrapB (opW 7 kids[k]) (textP kids[k]) = X at *
      have hXl : X.length ≤ 10002 := by omega
      clear hwl hop hc ha hle
      by_cases hk0 : k = 0
      · have dk : decide (0 < k) = false := by simp; omega
        have HJ : Hid (joinS [32, 43, 32] ((textP.partsT 7 kids).take (k + 1)) = X) := by
          show _ = _
          rw [← HPg.out]
          subst hk0
          exact joinS_first _ _ hlp
        have HJ0 : Hid (joinS [32, 43, 32] ((textP.partsT 7 kids).take k) = []) := by show _ = _; rw [hk0]; simp [joinS]
        rw [HJ0.out]
        clear hja HPg hk0
        go_wp2_with fail
        have s0 := cell_regrown q0; have s3 := cell_regrown q3
        have t0 := cell_regrown a0; have t1 := cell_regrown a1; have t2 := cell_regrown a2; have t3 := cell_regrown a3
        refine wp_region_quiet_below (by kernel_rfl) (by kernel_rfl) ?_
        repeat (go_big_quiet_step (first | (go_at_call 35; exact c35.out _ _)))
        refine wpQuiet_nil ?_
        intro _ hw'
        obtain ⟨⟨dq, osq⟩, hw''⟩ := hw'
        subst hw''
        have hbE := below_regrown wr dq osq
        have HBE : Hid (Below w.heap.size w (grow (redrawn wr dq) osq)) := HB.out.trans (hbE.mono hwr)
        have HE1 : Hid ((grow (redrawn wr dq) osq).heap[w.heap.size]? = some (pobj ⟨7, f, (N : Int), .slice (some ⟨b, off, none⟩) kids.length sc⟩)) := (hbE.block _ (heap_lt HR.out)).trans HR.out
        clear s0 s3 t0 t1 t2 t3 c35 HB HR hbE q0 q1 q2 q3 a0 a1 a2 a3
        generalize (grow (redrawn wr dq) osq) = WE at *
        go_wp2
        go_roundw
        case rel => exact ⟨k + 1, by omega, by go_num, by rw [HJ.out]; exact congrArg Value.string (sh_cat [] X), HBE, HE1⟩
        case measure => simp [intOf]; omega
      · have hkp : 0 < k := by omega
        have dk : decide (0 < k) = true := by simp; omega
        have HJ : Hid (joinS [32, 43, 32] ((textP.partsT 7 kids).take (k + 1)) = joinS [32, 43, 32] ((textP.partsT 7 kids).take k) ++ ([32, 43, 32] ++ X)) := by show _ = _; rw [joinS_next _ _ k hlp hkp, HPg.out]
        generalize joinS [32, 43, 32] ((textP.partsT 7 kids).take k) = acc at *
        clear HPg
        go_wp2_with fail
        have s0 := cell_regrown q0; have s3 := cell_regrown q3
        have t0 := cell_regrown a0; have t1 := cell_regrown a1; have t2 := cell_regrown a2; have t3 := cell_regrown a3
        refine wp_region_quiet_below (by kernel_rfl) (by kernel_rfl) ?_
        repeat (go_big_quiet_step (first | (go_at_call 35; exact c35.out _ _)))
        refine wpQuiet_nil ?_
        intro _ hw'
        obtain ⟨⟨dq, osq⟩, hw''⟩ := hw'
        subst hw''
        have hbE := below_regrown wr dq osq
        have HBE : Hid (Below w.heap.size w (grow (redrawn wr dq) osq)) := HB.out.trans (hbE.mono hwr)
        have HE1 : Hid ((grow (redrawn wr dq) osq).heap[w.heap.size]? = some (pobj ⟨7, f, (N : Int), .slice (some ⟨b, off, none⟩) kids.length sc⟩)) := (hbE.block _ (heap_lt HR.out)).trans HR.out
        clear s0 s3 t0 t1 t2 t3 c35 HB HR hbE q0 q1 q2 q3 a0 a1 a2 a3
        generalize (grow (redrawn wr dq) osq) = WE at *
        go_wp2
        go_roundw
        case rel => exact ⟨k + 1, by omega, by go_num, by rw [HJ.out, ← List.append_assoc, ← sh_cat, ← sh_cat], HBE, HE1⟩
        case measure => simp [intOf]; omega
    · obtain rfl : k = kids.length := by omega
      have HT : Hid ((textP.partsT 7 kids).take kids.length = textP.partsT 7 kids) := by show _ = _; rw [← partsT_len 7 kids]; exact List.take_length
      clear hja
      go_wp2
      go_ret
      exact ⟨by rw [HT.out]; rfl, HB.out⟩

end Go.Proofs.YtebpapmnkbehnaaDoor
