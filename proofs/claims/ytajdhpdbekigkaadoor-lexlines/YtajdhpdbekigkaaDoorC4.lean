/- What the law LexLines answers: true, for every two texts and every remark, wherever the listed variables hold what the row lists. -/
import Derived.Test.YtajdhpdbekigkaaDoorC3
set_option linter.unusedVariables false
set_option linter.unusedSimpArgs false
namespace Go.Proofs.YtajdhpdbekigkaaDoor
open Go.RowKit Go.Joins Go.Lib

section
variable {P : Program} (w : World)
/-- 'append' on a slice of the call's own, of an operation whose guard lets it go. -/
theorem wpList_append_guard {ops : Array Oper} {rest : List Oper} {o : Oper} {a : Act} {Q : Exit → Act → World → Prop} (hwant : Region.wanted o (yielded ops a.tmps) = true) (s x : Operand) (t : TypeId)
    (ho : o.op = .call { callee := .builtin .append, args := #[s, x], argTypes := #[t, t] })
    (base : Nat) (e : TypeId) (i : TypeInfo) (z : Value) (size bytes : Nat) (ht : P.underlying t = some (.slice e)) (hi : P.info? e = some i) (hz : i.zero = some z)
    (hsize : i.size = size) (hby : i.bytes = bytes) (hzs : z.cells.size = size) (hsz : 0 < size)
    (v : Value) (n : Nat) (xs : List Value) (hs : a.eval s = v) (hown : w.ownsRow base e size v n xs)
    (ad : Addr) (m c : Nat) (news : List Value) (hx : a.eval x = .slice (some ad) m c) (hl : news.length = m * size) (hnews : ∀ j u, news[j]? = some u → w.cell? (ad.add j) = some u) (h1 : ∀ u ∈ news, u.oneCell' = true)
    (h63 : n + m ≤ maxLen) (hbytes : (n + m) * bytes ≤ 140737488355328) (hbase : base ≤ w.heap.size)
    (h : ∀ v' w', w'.ownsRow base e size v' (n + m) (xs ++ news) → w.grownBy w' v.ownBlock → (v' = .slice none 0 0 ↔ v = .slice none 0 0 ∧ m = 0) → wpList P ops Q rest (a.put o.dst v') w') : wpList P ops Q (o :: rest) a w :=
  wpList_step fun K hK => by
    simp only [hwant, if_true]
    exact wp_append_own w s x t ho base e i z size bytes ht hi hz hsize hby hzs hsz v n xs hs hown ad m c news hx hl hnews h1 h63 hbytes hbase fun v' w' h2 h3 h4 => hK _ _ (h v' w' h2 h3 h4)
end
theorem add_off (b off j : Nat) : (⟨b, off, none⟩ : Addr).add j = ⟨b, off + j, none⟩ := by
  unfold Addr.add; split <;> simp_all
/-- Where tokens lie, cell by cell. -/
theorem Tks.cells {w : World} {sa : Option Addr} {n sc : Nat} {L : List Tk} (h : Tks w (.slice sa n sc) L) (h0 : 0 < L.length) : ∃ b off, sa = some ⟨b, off, none⟩ ∧ b < w.heap.size ∧ ∀ j u, (flat3 L)[j]? = some u → w.cell? ((⟨b, off, none⟩ : Addr).add j) = some u := by
  obtain ⟨sa', sc', hv, hc⟩ := h
  injection hv with hv1 hv2 hv3
  subst hv1
  obtain ⟨b, off, rfl, hb, _⟩ := hc 0 h0
  refine ⟨b, off, rfl, hb, fun j u hj => ?_⟩
  have hlt : j < L.length * 3 := by
    rw [← flat3_length]
    exact (List.getElem?_eq_some_iff.1 hj).1
  obtain ⟨b', off', hs, _, ha⟩ := hc (j / 3) (by omega)
  injection hs with hs
  injection hs with e1 e2
  subst e1 e2
  have h1 := flat3_get L (j / 3) (by omega) (j % 3) (by omega)
  rw [show j / 3 * 3 + j % 3 = j by omega, hj] at h1
  rw [add_off, show off + j = off + j / 3 * 3 + j % 3 by omega, ha.cell (j % 3) (by omega), ← h1]
theorem cells_keep {w w' : World} {b o : Nat} {L : List Value} (hb : Below w.heap.size w w') (hlt : b < w.heap.size) (h : ∀ j u, L[j]? = some u → w.cell? ((⟨b, o, none⟩ : Addr).add j) = some u) : ∀ j u, L[j]? = some u → w'.cell? ((⟨b, o, none⟩ : Addr).add j) = some u := by
  intro j u hj
  have h1 := h j u hj
  rw [add_off] at h1 ⊢
  rw [hb.cell (p := ⟨b, o + j, none⟩) hlt]; exact h1
theorem flat3_left {l m : List Tk} {j : Nat} {u : Value} (h : (flat3 l)[j]? = some u) : (flat3 (l ++ m))[j]? = some u := by
  rw [flat3_append, List.getElem?_append_left (List.getElem?_eq_some_iff.1 h).1]; exact h
theorem grown_empty {w w' : World} (hg : (w.alloc (.cells #[] 26)).grownBy w' (Value.slice (some ⟨w.heap.size, 0, none⟩) 0 0).ownBlock) : Below w.heap.size w w' :=
  Below.grown ((Below.refl _ w).alloc (Nat.le_refl _) _) hg (by simp) (fun j hj => by
    simp [Value.ownBlock] at hj; omega)
theorem first_own {w : World} {B n : Nat} {v : Value} {xs : List Value} (h : w.ownsRow B 26 3 v (0 + n) ([] ++ xs)) : w.ownsRow B 26 3 v n xs := by
  rwa [Nat.zero_add, List.nil_append] at h
theorem own_empty (w : World) : (w.alloc (.cells #[] 26)).ownsRow w.heap.size 26 3 (.slice (some ⟨w.heap.size, 0, none⟩) 0 0) 0 [] :=
  ⟨rfl, .inr ⟨w.heap.size, 0, #[], rfl, Nat.le_refl _, heap_alloc_new w _, Nat.le_refl _, Nat.zero_le _, rfl, rfl⟩⟩

set_option maxRecDepth 100000 in
set_option maxHeartbeats 1000000 in
theorem lines_long (a b r : List UInt8) (w : World) (h : Env w) (hl : 500 < a.length ∨ 500 < b.length ∨ 100 < r.length) (ha : a.length ≤ 9223372036854775807) (hb : b.length ≤ 9223372036854775807) (hr : r.length ≤ 9223372036854775807) :
    Calls Tryd.prog 4 #[str a, str b, str r] w fun e w' => e = .returned (.bool true) ∧ Below w.heap.size w w' := by
  have hsa : (ByteArray.mk a.toArray).size = a.length := size_mk a
  have hsb : (ByteArray.mk b.toArray).size = b.length := size_mk b
  have hsr : (ByteArray.mk r.toArray).size = r.length := size_mk r
  by_cases h1 : 500 < a.length
  · have d : decide (500 < a.length) = true := by simp; omega
    go_enter Tryd.func4, Tryd.ntmps4
    go_wp2_with fail
    refine (awake_any _ h).mono ?_
    rintro e w1 ⟨rfl, hb1⟩
    clear h hl
    go_wp2
    go_ret
    exact ⟨rfl, hb1⟩
  have d1 : decide (500 < a.length) = false := by simp; omega
  by_cases h2 : 500 < b.length
  · have d : decide (500 < b.length) = true := by simp; omega
    go_enter Tryd.func4, Tryd.ntmps4
    go_wp2_with fail
    refine (awake_any _ h).mono ?_
    rintro e w1 ⟨rfl, hb1⟩
    clear h hl
    go_wp2
    go_ret
    exact ⟨rfl, hb1⟩
  have d2 : decide (500 < b.length) = false := by simp; omega
  have h3 : 100 < r.length := by omega
  go_enter Tryd.func4, Tryd.ntmps4
  go_wp2_with fail
  refine (awake_any _ h).mono ?_
  rintro e w1 ⟨rfl, hb1⟩
  clear h hl
  go_wp2
  go_ret
  exact ⟨rfl, hb1⟩

set_option maxRecDepth 100000 in
set_option maxHeartbeats 1000000 in
theorem lines_short (a b r : List UInt8) (w : World) (h : Env w) (ha : a.length ≤ 500) (hb : b.length ≤ 500) (hr : r.length ≤ 100) :
    Calls Tryd.prog 4 #[str a, str b, str r] w fun e w' => e = .returned (.bool true) ∧ Below w.heap.size w w' := by
  have hsa : (ByteArray.mk a.toArray).size = a.length := size_mk a
  have hsb : (ByteArray.mk b.toArray).size = b.length := size_mk b
  obtain ⟨s, hs⟩ : ∃ s : ByteArray, ⟨r.toArray⟩ = s := ⟨_, rfl⟩
  have hsz : s.size = r.length := by rw [← hs, size_mk]
  have hget : Hid (∀ k (hk : k < s.size) (hk2 : k < r.length), s[k] = r[k]) := by subst hs; intro k hk hk2; simp [ByteArray.getElem_eq_getElem_data]
  have HR : Hid ((⟨r.toArray⟩ : ByteArray) = s) := hs
  have d1 : decide (500 < a.length) = false := by simp; omega
  have d2 : decide (500 < b.length) = false := by simp; omega
  have d3 : decide (100 < r.length) = false := by simp; omega
  have HE : Hid (Env w) := h
  unfold str
  rw [hs]
  clear hs
  go_enter Tryd.func4, Tryd.ntmps4
  go_wp2_with fail
  refine (awake_any _ h).mono ?_
  rintro e w1 ⟨rfl, hb1⟩
  have HB1 : Hid (Below w.heap.size w w1) := hb1
  clear h hb1
  go_wp2_with fail
  have HZ : Hid (s.size = r.length) := hsz
  clear hsz
  go_loopw [31] (fun i wr => ∃ k : Nat, k ≤ r.length ∧ i = .int .i64 (k : Int) ∧ Hid (∀ c ∈ r.take k, c.toNat < 128 ∧ c.toNat ≠ 10) ∧ Hid (Below w.heap.size w wr)) (fun i _ => r.length - (intOf i).toNat)
  case atStart => exact ⟨0, Nat.zero_le _, rfl, (fun t ht => by simp at ht), HB1⟩
  case round =>
    obtain ⟨k, hk, rfl, HK, HB⟩ := hrel
    by_cases hlt : k < r.length
    · have hlt2 : k < s.size := by rw [HZ.out]; exact hlt
      have HK2 : Hid ((s[k]'hlt2).toNat < 128 → (s[k]'hlt2).toNat ≠ 10 → ∀ c ∈ r.take (k + 1), c.toNat < 128 ∧ c.toNat ≠ 10) := by
        intro h1 h2 c hc
        rw [hget.out k hlt2 hlt] at h1 h2
        rw [List.take_succ_eq_append_getElem hlt, List.mem_append, List.mem_singleton] at hc
        rcases hc with hc | rfl
        · exact HK.out c hc
        · exact ⟨h1, h2⟩
      obtain ⟨c, hc⟩ : ∃ c : Nat, (s[k]'hlt2).toNat = c := ⟨_, rfl⟩
      rw [hc] at HK2
      by_cases h10 : c = 10
      · have d4 : ((c : Int) == 10) = true := by simp; omega
        clear HK2
        go_wp2
        go_ret
        exact ⟨rfl, HB.out⟩
      · have d4 : ((c : Int) == 10) = false := by simp; omega
        by_cases h127 : 127 < c
        · have d5 : decide (127 < c) = true := by simp; omega
          clear HK2
          go_wp2
          go_ret
          exact ⟨rfl, HB.out⟩
        · have d5 : decide (127 < c) = false := by simp; omega
          have HK3 : Hid (∀ c ∈ r.take (k + 1), c.toNat < 128 ∧ c.toNat ≠ 10) := HK2.out (by omega) h10
          clear HK2
          go_wp2
          go_roundw
          case rel => exact ⟨k + 1, by omega, by go_num, HK3, HB⟩
          case measure => simp [intOf]; omega
    · have hkl : k = r.length := by omega
      subst hkl
      have HA : Hid (∀ c ∈ r, c.toNat < 128 ∧ c.toNat ≠ 10) := by have h1 := HK.out; rwa [List.take_length] at h1
      obtain ⟨ra, hra⟩ := TM.ex a
      obtain ⟨rb, hrb⟩ := TM.ex b
      obtain ⟨rz, hrz, hrel⟩ := TM.both hra hrb HA.out
      have cA := fun w h => hra.call (w := w) (by omega) h
      have cB := fun w h => hrb.call (w := w) (by omega) h
      have cZ := fun w h => hrz.call (w := w) (by rw [both_len]; omega) h
      have eZ := both_cat a r b
      rw [HR.out] at eZ
      have HZ1 : Hid ((⟨a.toArray⟩ : ByteArray) ++ ⟨#[10, 35]⟩ ++ s ++ ⟨#[10]⟩ ++ ⟨b.toArray⟩ = ⟨(both a r b).toArray⟩) := eZ
      have HRA : Hid (TM a ra) := hra
      have HRB : Hid (TM b rb) := hrb
      have HRL : Hid (rz = cat ra rb ∨ ∃ eb, rb = .error eb ∧ rz = .error eb) := hrel
      clear hra hrb hrz hrel eZ HK hget
      have hsz := HZ.out
      generalize both a r b = Z at *
      cases ra with
      | error ea =>
        have hea := HRA.out.err
        have dea : (((ea : Nat) : Int) != 0) = true := by simp; omega
        cases rb with
        | error eb =>
          have heb := HRB.out.err
          have deb : (((eb : Nat) : Int) != 0) = true := by simp; omega
          have HRZ : Hid (rz = .error ea ∨ rz = .error eb) := by
            rcases HRL.out with h1 | ⟨eb', h1, h2⟩
            · exact .inl h1
            · exact .inr (by rw [h2, h1])
          clear HRL HRA HRB
          go_wp2_with fail
          refine (cA _ (HE.out.below HB.out)).mono ?_
          rintro e w2 ⟨hx, hbx⟩
          have HB2 : Hid (Below w.heap.size w w2) := HB.out.trans (hbx.mono HB.out.size)
          clear hbx
          have he : e = .returned (.tuple #[.slice none 0 0, .int .i64 (ea : Int)]) := hx
          subst he
          clear hx
          go_wp2_with fail
          refine (cB _ (HE.out.below HB2.out)).mono ?_
          rintro e w3 ⟨hy, hbx⟩
          have HB3 : Hid (Below w.heap.size w w3) := HB2.out.trans (hbx.mono HB2.out.size)
          clear hbx
          have he : e = .returned (.tuple #[.slice none 0 0, .int .i64 (eb : Int)]) := hy
          subst he
          clear hy
          go_wp2_with fail
          rw [HZ1.out]
          refine (cZ _ (HE.out.below HB3.out)).mono ?_
          rintro e w4 ⟨hz, hbx⟩
          have HB4 : Hid (Below w.heap.size w w4) := HB3.out.trans (hbx.mono HB3.out.size)
          clear hbx
          clear cA cB cZ HB HB2 HB3
          rcases HRZ.out with hh | hh
          · subst hh
            have he : e = .returned (.tuple #[.slice none 0 0, .int .i64 (ea : Int)]) := hz
            subst he
            clear hz
            clear HRZ
            go_wp2
            go_ret
            exact ⟨rfl, HB4.out⟩
          · subst hh
            have he : e = .returned (.tuple #[.slice none 0 0, .int .i64 (eb : Int)]) := hz
            subst he
            clear hz
            clear HRZ
            by_cases hq : ea = eb
            · subst hq
              go_wp2
              go_ret
              exact ⟨rfl, HB4.out⟩
            · have dq : (((eb : Nat) : Int) == (ea : Int)) = false := by simp; omega
              go_wp2
              go_ret
              exact ⟨rfl, HB4.out⟩
        | ok m =>
          have HRZ : Hid (rz = .error ea) := by
            rcases HRL.out with h1 | ⟨eb', h1, h2⟩
            · exact h1
            · cases h1
          clear HRL HRA HRB
          go_wp2_with fail
          refine (cA _ (HE.out.below HB.out)).mono ?_
          rintro e w2 ⟨hx, hbx⟩
          have HB2 : Hid (Below w.heap.size w w2) := HB.out.trans (hbx.mono HB.out.size)
          clear hbx
          have he : e = .returned (.tuple #[.slice none 0 0, .int .i64 (ea : Int)]) := hx
          subst he
          clear hx
          go_wp2_with fail
          refine (cB _ (HE.out.below HB2.out)).mono ?_
          rintro e w3 ⟨hy, hbx⟩
          have HB3 : Hid (Below w.heap.size w w3) := HB2.out.trans (hbx.mono HB2.out.size)
          clear hbx
          obtain ⟨ya, yc, he, hyc, hyT⟩ := hy
          subst he
          go_wp2_with fail
          rw [HZ1.out]
          refine (cZ _ (HE.out.below HB3.out)).mono ?_
          rintro e w4 ⟨hz, hbx⟩
          have HB4 : Hid (Below w.heap.size w w4) := HB3.out.trans (hbx.mono HB3.out.size)
          clear hbx
          clear cA cB cZ HB HB2 HB3 hyT hyc
          have hh := HRZ.out
          subst hh
          have he : e = .returned (.tuple #[.slice none 0 0, .int .i64 (ea : Int)]) := hz
          subst he
          clear hz
          clear HRZ
          go_wp2
          go_ret
          exact ⟨rfl, HB4.out⟩
      | ok l =>
        cases rb with
        | error eb =>
          have heb := HRB.out.err
          have deb : (((eb : Nat) : Int) != 0) = true := by simp; omega
          have HRZ : Hid (rz = .error eb) := by
            rcases HRL.out with h1 | ⟨eb', h1, h2⟩
            · exact h1
            · show _ = _; rw [h2, h1]
          clear HRL HRA HRB
          go_wp2_with fail
          refine (cA _ (HE.out.below HB.out)).mono ?_
          rintro e w2 ⟨hx, hbx⟩
          have HB2 : Hid (Below w.heap.size w w2) := HB.out.trans (hbx.mono HB.out.size)
          clear hbx
          obtain ⟨xa, xc, he, hxc, hxT⟩ := hx
          subst he
          go_wp2_with fail
          refine (cB _ (HE.out.below HB2.out)).mono ?_
          rintro e w3 ⟨hy, hbx⟩
          have HB3 : Hid (Below w.heap.size w w3) := HB2.out.trans (hbx.mono HB2.out.size)
          clear hbx
          have he : e = .returned (.tuple #[.slice none 0 0, .int .i64 (eb : Int)]) := hy
          subst he
          clear hy
          go_wp2_with fail
          rw [HZ1.out]
          refine (cZ _ (HE.out.below HB3.out)).mono ?_
          rintro e w4 ⟨hz, hbx⟩
          have HB4 : Hid (Below w.heap.size w w4) := HB3.out.trans (hbx.mono HB3.out.size)
          clear hbx
          clear cA cB cZ HB HB2 HB3 hxT hxc
          have hh := HRZ.out
          subst hh
          have he : e = .returned (.tuple #[.slice none 0 0, .int .i64 (eb : Int)]) := hz
          subst he
          clear hz
          clear HRZ
          go_wp2
          go_ret
          exact ⟨rfl, HB4.out⟩
        | ok m =>
          have HRZ : Hid (rz = .ok (l ++ m)) := by
            rcases HRL.out with h1 | ⟨eb', h1, h2⟩
            · exact h1
            · cases h1
          have hl6 : l.length ≤ 3000 := by have := HRA.out.len; omega
          have hm6 : m.length ≤ 3000 := by have := HRB.out.len; omega
          clear HRL HRA HRB
          go_wp2_with fail
          refine (cA _ (HE.out.below HB.out)).mono ?_
          rintro e w2 ⟨hx, hbx⟩
          have HB2 : Hid (Below w.heap.size w w2) := HB.out.trans (hbx.mono HB.out.size)
          clear hbx
          obtain ⟨xa, xc, he, hxc, hxT⟩ := hx
          subst he
          have HX : Hid (Tks w2 (.slice xa (l.length + 1) xc) (l ++ [tkEnd])) := hxT
          clear hxT
          go_wp2_with fail
          refine (cB _ (HE.out.below HB2.out)).mono ?_
          rintro e w3 ⟨hy, hbx⟩
          have HB3 : Hid (Below w.heap.size w w3) := HB2.out.trans (hbx.mono HB2.out.size)
          have HX3 : Hid (Tks w3 (.slice xa (l.length + 1) xc) (l ++ [tkEnd])) := HX.out.below hbx
          clear hbx
          obtain ⟨ya, yc, he, hyc, hyT⟩ := hy
          subst he
          have HY : Hid (Tks w3 (.slice ya (m.length + 1) yc) (m ++ [tkEnd])) := hyT
          clear hyT
          go_wp2_with fail
          rw [HZ1.out]
          refine (cZ _ (HE.out.below HB3.out)).mono ?_
          rintro e w4 ⟨hz, hbx⟩
          have HB4 : Hid (Below w.heap.size w w4) := HB3.out.trans (hbx.mono HB3.out.size)
          have HX4 : Hid (Tks w4 (.slice xa (l.length + 1) xc) (l ++ [tkEnd])) := HX3.out.below hbx
          have HY4 : Hid (Tks w4 (.slice ya (m.length + 1) yc) (m ++ [tkEnd])) := HY.out.below hbx
          clear hbx
          clear cA cB cZ HB HB2 HB3 HX HX3 HY
          have hh := HRZ.out
          subst hh
          obtain ⟨za, zc, he, hzc, hzT⟩ := hz
          subst he
          have HZ4 : Hid (Tks w4 (.slice za ((l ++ m).length + 1) zc) (l ++ m ++ [tkEnd])) := hzT
          clear hzT HRZ
          obtain ⟨xb, xo, hxa, hxlt, hxcell⟩ := HX4.out.cells (by simp)
          subst hxa
          obtain ⟨yb, yo, hya, hylt, hycell⟩ := HY4.out.cells (by simp)
          subst hya
          have HXC : Hid (∀ j u, (flat3 l)[j]? = some u → w4.cell? ((⟨xb, xo, none⟩ : Addr).add j) = some u) := fun j u hj => hxcell j u (flat3_left hj)
          have HYC : Hid (∀ j u, (flat3 (m ++ [tkEnd]))[j]? = some u → w4.cell? ((⟨yb, yo, none⟩ : Addr).add j) = some u) := hycell
          obtain ⟨i0, hi, hz0, hz1, hz2⟩ := info_parts info26
          clear hxcell hycell HX4 HY4
          go_wp2_with (first | (at_builtin; refine wpList_append_guard _ (by rfl) _ _ 22 rfl w4.heap.size 26 i0 (tv tkEnd) 3 32 Tryd.underlying22 hi hz0 hz1 hz2 rfl (by decide) (.slice (some ⟨w4.heap.size, 0, none⟩) 0 0) 0 [] rfl (own_empty w4) ⟨xb, xo, none⟩ l.length xc (flat3 l) rfl (flat3_length l) (cells_keep ((Below.refl _ w4).alloc (Nat.le_refl _) _) hxlt HXC.out) (flat3_one l) (by unfold maxLen; omega) (by omega) (by simp) ?_; intro v5 w5 hown5 hgrow5 hnil5; have HB5 : Hid (Below w4.heap.size w4 w5) := grown_empty hgrow5; have HO5 : Hid (w5.ownsRow w4.heap.size 26 3 v5 l.length (flat3 l)) := first_own hown5; have HS5 : Hid (w4.heap.size ≤ w5.heap.size) := HB5.out.size; clear hown5 hgrow5 hnil5) | (at_builtin; refine wpList_append_guard _ (by rfl) _ _ 22 rfl w4.heap.size 26 i0 (tv tkEnd) 3 32 Tryd.underlying22 hi hz0 hz1 hz2 rfl (by decide) v5 l.length (flat3 l) rfl HO5.out ⟨yb, yo, none⟩ (m.length + 1) yc (flat3 (m ++ [tkEnd])) rfl (by rw [flat3_length]; simp) (cells_keep HB5.out hylt HYC.out) (flat3_one _) (by unfold maxLen; omega) (by omega) HS5.out ?_; intro v6 w6 hown6 hgrow6 hnil6))
          have HB6 : Hid (Below w4.heap.size w4 w6) := Below.grown HB5.out hgrow6 HS5.out (fun j hj => (HO5.out.lt _ hj).1)
          have HT6 : Hid (Tks w6 v6 (l ++ m ++ [tkEnd])) := by
            refine tks_of_own (B := w4.heap.size) ?_
            have e1 : (l ++ m ++ [tkEnd]).length = l.length + (m.length + 1) := by (simp only [List.length_append, List.length_singleton]); omega
            have e2 : flat3 (l ++ m ++ [tkEnd]) = flat3 l ++ flat3 (m ++ [tkEnd]) := by rw [List.append_assoc, flat3_append]
            rw [e1, e2]; exact hown6
          have HZ6 : Hid (Tks w6 (.slice za (l.length + m.length + 1) zc) (l ++ m ++ [tkEnd])) := by
            have h1 := HZ4.out.below HB6.out
            rwa [List.length_append] at h1
          have HB7 : Hid (Below w.heap.size w w6) := HB4.out.trans (HB6.out.mono HB4.out.size)
          clear hown6 hgrow6 hnil6 HB6 HB5 HO5 HS5 HXC HYC
          refine (same_any _ _ (l ++ m ++ [tkEnd]) (by simp; omega) _ HZ6.out HT6.out).mono ?_
          rintro e w7 ⟨rfl, hb7⟩
          have HB8 : Hid (Below w.heap.size w w7) := HB7.out.trans (hb7.mono HB7.out.size)
          clear hb7
          go_wp2
          go_ret
          exact ⟨rfl, HB8.out⟩
end Go.Proofs.YtajdhpdbekigkaaDoor
