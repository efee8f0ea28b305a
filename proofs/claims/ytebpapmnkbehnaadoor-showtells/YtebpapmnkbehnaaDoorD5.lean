/- What the document's text answers, whatever the policy; policies that are well formed, of up to 600 nodes, numbers of 16 bits. -/
import Derived.Test.YtebpapmnkbehnaaDoorD4
set_option linter.unusedVariables false
set_option linter.unusedSimpArgs false
namespace Go.Proofs.YtebpapmnkbehnaaDoor
open Go.RowKit Go.Joins Go.Lib Go.Sort

set_option maxRecDepth 100000 in
set_option maxHeartbeats 8000000 in
theorem rtext_not (f : Int) (N : Nat) (hN : N ≤ 65535) (sa : Option Addr) (sc : Nat) (K : Pl) (w : World) (hk : ∀ k (hk : k < [K].length), KidD w sa [K] k hk) :
    Calls Tryd.prog 17 #[nv ⟨4, f, N, .slice sa 1 sc⟩] w fun e w' => e = .returned (.string ⟨(33 :: wrapB (opW 4 K) (textP K)).toArray⟩) ∧ Below w.heap.size w w' := by
  have HB0 : Hid (Below w.heap.size w (w.alloc (pobj ⟨4, f, (N : Int), .slice sa 1 sc⟩))) := (Below.refl _ w).alloc (Nat.le_refl _) _
  have HR0 : Hid ((w.alloc (pobj ⟨4, f, (N : Int), .slice sa 1 sc⟩)).heap[w.heap.size]? = some (pobj ⟨4, f, (N : Int), .slice sa 1 sc⟩)) := heap_alloc_new w _
  have cD := digits_any N hN (w.alloc (pobj ⟨4, f, (N : Int), .slice sa 1 sc⟩))
  obtain ⟨b, off, sa2, n2, sc2, y0, y1, y2, rfl, hb, ha, hop, hle, hc⟩ := (hk 0 (by simp)).ex
  simp only [List.getElem_cons_zero, Nat.zero_mul, Nat.add_zero] at hop hle hc ha
  have HC : Hid _ := hc
  have HA : Hid (At4 w b off ⟨y0, y1, y2, .slice sa2 n2 sc2⟩) := ha
  have hwl := wrapB_le (opW 4 K) (textP K)
  have HOp : Hid _ := hop
  have CW : Hid (∀ wr : World, Below w.heap.size w wr → Calls Tryd.prog 35 #[nv ⟨y0, y1, y2, .slice sa2 n2 sc2⟩, .bool false] wr fun e w'' => e = .returned (.string ⟨(wrapB (opW 4 K) (textP K)).toArray⟩) ∧ Below wr.heap.size wr w'') :=
    fun wr hwr => rwithin_any false y0 y1 y2 sa2 n2 sc2 K hop (by omega) _ fun W' hW' => hc W' (hwr.trans (hW'.mono hwr.size))
  generalize wrapB (opW 4 K) (textP K) = X at *
  have hXl : X.length ≤ 10002 := by omega
  clear hk hc ha hwl hop HC HOp hle
  go_enter Tryd.func17, Tryd.ntmps17
  go_wp2_with fail
  refine cD.mono ?_
  rintro e w1 ⟨rfl, hb1⟩
  have HB1 : Hid (Below w.heap.size w w1) := HB0.out.trans (hb1.mono HB0.out.size)
  obtain ⟨q0, q1, q2, q3⟩ := row4 ((hb1.block _ (heap_lt HR0.out)).trans HR0.out)
  obtain ⟨a0, a1, a2, a3⟩ := At4.same HA.out (HB1.out.block b hb)
  have c35 : Hid _ := CW.out w1 HB1.out
  clear hb1 cD HB0 HR0 CW HA
  go_wp2_with fail
  refine Calls.mono c35.out ?_
  rintro e w2 ⟨rfl, hb2⟩
  have HB2 : Hid (Below w.heap.size w w2) := HB1.out.trans (hb2.mono HB1.out.size)
  clear hb2 q0 q1 q2 q3 a0 a1 a2 a3 c35
  go_wp2
  go_ret
  exact ⟨by rw [not_str]; rfl, HB2.out⟩

theorem rtext_any {P : Nat → Prop} (parts : Int) (hpa : parts ≤ 9) : ∀ (m : Nat) (T : Pl) (x : Nd) (w : World), sizeP T ≤ m → m ≤ 600 → formP parts T = true → okN T → PolAt P w T x → Calls Tryd.prog 17 #[nv x] w fun e w' => e = .returned (.string ⟨(textP T).toArray⟩) ∧ Below w.heap.size w w'
  | 0, T, x, w, h, _, _, _, _ => absurd (size_pos T) (by omega)
  | m + 1, .mk op f n kids, x, w, hs, hm, hf, hn, hp => by
    obtain ⟨sa, sc, rfl, hk⟩ := hp.open
    rw [formP_mk, Bool.and_eq_true] at hf
    rw [okN] at hn
    rw [sizeP_mk] at hs
    have hl := len_le kids
    have HKC : ∀ k (hk : k < kids.length), KidD w sa kids k hk := by
      intro k hkl
      obtain ⟨b, off, sa2, n2, sc2, y0, y1, y2, e, hb, ha, hpk⟩ := hk k hkl
      have hsz := size_get kids k hkl
      have hlen := textP_len parts hpa m kids[k] (by omega) (form_get parts kids hf.2 k hkl) (okN_get kids hn.2 k hkl)
      refine ⟨⟨b, off, sa2, n2, sc2, y0, y1, y2, e, hb, ha, hpk.shape.1, by omega, fun W' hW' => ?_⟩⟩
      exact rtext_any parts hpa m kids[k] _ W' (by omega) (by omega) (form_get parts kids hf.2 k hkl) (okN_get kids hn.2 k hkl) (hpk.below hW')
    have hnode := hf.1
    obtain ⟨N, rfl⟩ := Int.eq_ofNat_of_zero_le hn.1.1
    have hN : N ≤ 65535 := by have := hn.1.2; omega
    rw [textP_mk]
    by_cases h0 : op = 0
    · subst h0; rw [if_pos rfl]; exact rtext_drop f N hN sa _ sc w
    rw [if_neg h0]
    by_cases h1 : op = 1
    · subst h1; rw [if_pos rfl]; exact rtext_id f N hN sa _ sc w
    rw [if_neg h1]
    by_cases h2 : op = 2
    · subst h2
      rw [if_pos rfl]
      obtain ⟨-, hf0, hf8⟩ := node_field hnode (.inl rfl)
      obtain ⟨F, rfl⟩ := Int.eq_ofNat_of_zero_le hf0
      exact rtext_test F N hN (by omega) sa _ sc w
    rw [if_neg h2]
    by_cases h3 : op = 3
    · subst h3
      rw [if_pos rfl]
      obtain ⟨-, hf0, hfp⟩ := node_part hnode
      obtain ⟨F, rfl⟩ := Int.eq_ofNat_of_zero_le hf0
      exact rtext_part F N hN (by omega) sa _ sc w
    rw [if_neg h3]
    by_cases h5 : op = 5
    · subst h5
      rw [if_pos rfl]
      obtain ⟨-, hf0, hf8⟩ := node_field hnode (.inr rfl)
      obtain ⟨F, rfl⟩ := Int.eq_ofNat_of_zero_le hf0
      exact rtext_put F N hN (by omega) sa _ sc w
    rw [if_neg h5]
    by_cases h4 : op = 4
    · subst h4
      rw [if_pos rfl]
      obtain ⟨K, rfl⟩ := node_not hnode
      have e1 : joinS [] (textP.partsT 4 [K]) = wrapB (opW 4 K) (textP K) := by simp [textP.partsT, joinS]
      rw [e1]
      exact rtext_not f N hN sa sc K w HKC
    rw [if_neg h4]
    obtain ⟨h67, h2l⟩ := node_many hnode h0 h1 h2 h3 h4 h5
    rcases h67 with rfl | rfl
    · exact rtext_many6 f N hN sa sc kids h2l (by omega) w HKC
    · exact rtext_many7 f N hN sa sc kids h2l (by omega) w HKC
end Go.Proofs.YtebpapmnkbehnaaDoor
