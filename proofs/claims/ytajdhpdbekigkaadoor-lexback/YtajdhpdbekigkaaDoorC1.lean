/- The laws' first look: the three tokens that awake asks for are there; no conditions but what the row lists. -/
import Derived.Test.YtajdhpdbekigkaaDoorB3
import Derived.KernelRfl
set_option linter.unusedVariables false
set_option linter.unusedSimpArgs false
namespace Go.Proofs.YtajdhpdbekigkaaDoor
open Go.RowKit Go.Joins Go.Lib

def awB : List UInt8 := [100, 115, 116, 58, 61, 55, 32, 35, 32, 120]
def awT : List Tk := [⟨1, [100, 115, 116], 0⟩, ⟨3, [58, 61], 0⟩, ⟨2, [], 7⟩]
theorem aw_lex : lexS 0 (asc awB) = .ok awT := by kernel_rfl
theorem aw_no : lexS 0 (asc [36]) = .error 10 := by kernel_rfl
theorem aw_join : joinT (awT ++ [tkEnd]) = [100, 115, 116, 32, 58, 61, 32, 55] := by kernel_rfl

theorem aw_ok : ∀ t ∈ awT ++ [tkEnd], okT t := by
  intro t ht
  have h' : t ∈ [(⟨1, [100, 115, 116], 0⟩ : Tk), ⟨3, [58, 61], 0⟩, ⟨2, [], 7⟩, ⟨0, [], 0⟩] := ht
  simp only [List.mem_cons, List.mem_nil_iff, or_false] at h'
  rcases h' with rfl | rfl | rfl | rfl <;> exact ⟨by decide, by decide⟩
/-- Where the three tokens lie. -/
structure AwAt (w : World) (b off : Nat) : Prop where
  p1 : w.cell? ⟨b, off + 1, none⟩ = some (.string ⟨#[100, 115, 116]⟩)
  q1 : w.cell? ⟨b, off + 4, none⟩ = some (.string ⟨#[58, 61]⟩)
  r2 : w.cell? ⟨b, off + 8, none⟩ = some (.int .u16 7)
  lt : b < w.heap.size
theorem aw_at {w : World} {sa : Option Addr} {sc : Nat} (h : Tks w (.slice sa 4 sc) (awT ++ [tkEnd])) : ∃ b off, sa = some ⟨b, off, none⟩ ∧ AwAt w b off := by
  obtain ⟨sa', sc', hv, hc⟩ := h
  injection hv with hv1 hv2 hv3
  subst hv1
  obtain ⟨b, off, rfl, hb, a0⟩ := hc 0 (by decide)
  obtain ⟨b1, o1, hs1, _, a1⟩ := hc 1 (by decide)
  injection hs1 with hs1
  injection hs1 with e1 e2
  subst e1 e2
  obtain ⟨b2, o2, hs2, _, a2⟩ := hc 2 (by decide)
  injection hs2 with hs2
  injection hs2 with e1 e2
  subst e1 e2
  exact ⟨b, off, rfl, ⟨a0.2.1, a1.2.1, a2.2.2, hb⟩⟩
theorem AwAt.below {w w' : World} {b off : Nat} (h : AwAt w b off) (hb : Below w.heap.size w w') : AwAt w' b off :=
  ⟨(hb.cell (p := ⟨b, off + 1, none⟩) h.lt).trans h.p1, (hb.cell (p := ⟨b, off + 4, none⟩) h.lt).trans h.q1, (hb.cell (p := ⟨b, off + 8, none⟩) h.lt).trans h.r2, Nat.lt_of_lt_of_le h.lt hb.size⟩

set_option maxRecDepth 100000 in
set_option maxHeartbeats 400000 in
theorem awake_any (w : World) (h : Env w) : Calls Tryd.prog 5 #[] w fun e w' => e = .returned (.bool true) ∧ Below w.heap.size w w' := by
  have c1 : ∀ w, Env w → Calls Tryd.prog 8 #[.string ⟨#[100, 115, 116, 58, 61, 55, 32, 35, 32, 120]⟩] w fun e w' => (∃ b off sc, e = .returned (.tuple #[.slice (some ⟨b, off, none⟩) 4 sc, .int .i64 0]) ∧ AwAt w' b off ∧ Tks w' (.slice (some ⟨b, off, none⟩) 4 sc) (awT ++ [tkEnd])) ∧ Below w.heap.size w w' := fun w h => by
    have := tokens_good (asc awB) (good_asc awB (by decide)) (by rw [fl_asc]; decide) w h
    rw [aw_lex, fl_asc] at this
    refine Calls.mono this ?_
    rintro e w1 ⟨⟨sa, sc, he, hcap, hT⟩, hb1⟩
    obtain ⟨b, off, hs, hA⟩ := aw_at hT
    subst hs
    exact ⟨⟨b, off, sc, he, hA, hT⟩, hb1⟩
  have c2 : ∀ w, Env w → Calls Tryd.prog 8 #[.string ⟨#[36]⟩] w fun e w' => e = .returned (.tuple #[.slice none 0 0, .int .i64 10]) ∧ Below w.heap.size w w' := fun w h => by
    have := tokens_good (asc [36]) (good_asc [36] (by decide)) (by rw [fl_asc]; decide) w h
    rw [aw_no, fl_asc] at this
    exact this
  have c3 : ∀ w v, Env w → Tks w v (awT ++ [tkEnd]) → Calls Tryd.prog 6 #[v] w fun e w' => e = .returned (.string ⟨#[100, 115, 116, 32, 58, 61, 32, 55]⟩) ∧ Below w.heap.size w w' := fun w v h hT => by
    have := join_any v (awT ++ [tkEnd]) (by decide) aw_ok w h hT
    rw [aw_join] at this
    exact this
  have HE : Hid (Env w) := h
  clear h
  go_enter Tryd.func5, Tryd.ntmps5
  go_wp2_with fail
  refine (c1 _ HE.out).mono ?_
  rintro e w1 ⟨⟨b, off, sc, rfl, hA, hT⟩, hb1⟩
  have HB1 : Hid (Below w.heap.size w w1) := hb1
  have HA1 : Hid (AwAt w1 b off) := hA
  have HT1 : Hid (Tks w1 (.slice (some ⟨b, off, none⟩) 4 sc) (awT ++ [tkEnd])) := hT
  clear hb1 hA hT
  go_wp2_with fail
  refine (c2 _ (HE.out.below HB1.out)).mono ?_
  rintro e w2 ⟨rfl, hb2⟩
  have HT2 : Hid (Tks w2 (.slice (some ⟨b, off, none⟩) 4 sc) (awT ++ [tkEnd])) := HT1.out.below hb2
  have HB2 : Hid (Below w.heap.size w w2) := HB1.out.trans (hb2.mono HB1.out.size)
  obtain ⟨p1, q1, r2, hlt⟩ := HA1.out.below hb2
  clear hb2 HB1 HT1 HA1 c1 c2
  go_wp2_with fail
  refine (c3 _ _ (HE.out.below HB2.out) HT2.out).mono ?_
  rintro e w3 ⟨rfl, hb3⟩
  have HB3 : Hid (Below w.heap.size w w3) := HB2.out.trans (hb3.mono HB2.out.size)
  clear hb3 p1 q1 r2
  go_wp2
  go_ret
  exact ⟨rfl, HB3.out⟩
end Go.Proofs.YtajdhpdbekigkaaDoor
