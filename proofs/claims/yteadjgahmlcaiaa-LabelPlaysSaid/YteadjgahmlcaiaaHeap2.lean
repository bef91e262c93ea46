/-
  The library's heap over a row of spare labels: Push, Pop. The one condition: rows that fit memory.
-/
import Derived.Test.YteadjgahmlcaiaaHeap
namespace Go.Proofs.Yteadjgahmlcaiaa
open Go.RowKit
set_option linter.unusedVariables false
set_option linter.unusedSimpArgs false

theorem HeapAt.start {w : World} {p o g c n : Nat} {S : List Int} (h : SpAt w p o (.slice (some ⟨g, 0, none⟩) n c) S) (hn : S.length = n) : HeapAt w w p o g n c S S := ⟨hn, List.Perm.refl _, h, Turned.refl _ _⟩
/-- what the heap's row may turn -/
def Hp (p : Nat) (v : Value) (i : Nat) : Prop := i = p ∨ v.ownBlock = some i
set_option maxRecDepth 20000 in
set_option maxHeartbeats 2000000 in
theorem heap_push (w : World) (p o : Nat) (v : Value) (S : List Int) (z : Int) (h : SpAt w p o v S) (hh : HeapN S S.length) (hn : S.length ≤ 1073741822) :
    Calls Try.prog 41 #[.iface 77 (.pointer (some ⟨p, o, none⟩)), .iface 3 (.int .i64 z)] w fun e w' => e = .returned (.tuple #[]) ∧
      ∃ v' S', SpAt w' p o v' S' ∧ S'.Perm (z :: S) ∧ HeapN S' S'.length ∧ Turned (Hp p v) w w' ∧ (v'.ownBlock = v.ownBlock ∨ ∃ g, v'.ownBlock = some g ∧ w.heap.size ≤ g) ∧ BlkTo p o v' w w' := by
  have H := hide h
  have HH := hide hh
  clear h hh
  go_enter Try.func41, Try.ntmps41
  go_wp2_with fail
  refine (spare_push w p o v S z H.out (by omega)).mono ?_
  rintro e w1 ⟨rfl, v1, h1, ht1, hv1, hb1⟩
  have hl1 : (S ++ [z]).length = S.length + 1 := by simp
  obtain ⟨g, c, rfl, hgp, _⟩ := h1.shape (by omega)
  have HUP := hide (up_start HH.out z rfl)
  have HP1 : Hid ((S ++ [z]).Perm (z :: S)) := hide (List.perm_append_singleton _ _)
  obtain ⟨S1, hS1⟩ : ∃ S1, S ++ [z] = S1 := ⟨_, rfl⟩
  rw [hS1] at h1 hl1 HUP HP1 hb1
  obtain ⟨m, hm⟩ : ∃ m, S.length = m := ⟨_, rfl⟩
  rw [hm] at hl1 HUP hn
  rw [hl1] at h1 hb1
  have hL := find_len w1 p o _ h1.cell 233
  have HA := hide (HeapAt.start h1 hl1)
  have HT := hide ht1
  have HV := hide hv1
  have HB1 := hide hb1
  have HGP := hide hgp
  have HL1 := hide hl1
  have hmI : ((m + 1 : Nat) : Int) - 1 = (m : Int) := by omega
  clear h1 ht1 hv1 hl1 hS1 hm hgp hb1
  go_wp2_with fail
  refine (spare_len _ _ (m + 1) c).mono ?_
  rintro e w2 ⟨rfl, rfl⟩
  clear hL
  go_wp2_with fail
  refine (heap_up w1 p o g (m + 1) c m S1 HA.out (by omega) HUP.out (by omega)).mono ?_
  rintro e w3 ⟨rfl, S3, h3, hh3⟩
  have hl3 := h3.len
  go_wp2
  go_end0
  refine ⟨rfl, _, S3, h3.at_, h3.perm.trans HP1.out, by rw [hl3]; exact hh3, ?_, ?_, fun t cs hb => h3.turned.blk (HB1.out t cs hb) (fun e => HGP.out e.symm)⟩
  · exact HT.out.trans h3.turned (fun i hi => by
      subst hi
      rcases HV.out with h | ⟨q, h, hq⟩
      · exact .inl (.inr (by rw [← h]; rfl))
      · injection h with h
        exact .inr (by have e : i = q := h; omega))
  · exact HV.out
set_option maxRecDepth 20000 in
set_option maxHeartbeats 2000000 in
theorem heap_pop (w : World) (p o m : Nat) (v : Value) (S : List Int) (h : SpAt w p o v S) (hm : S.length = m + 1) (hh : HeapN S (m + 1)) (hn : m ≤ 1073741822) :
    Calls Try.prog 57 #[.iface 77 (.pointer (some ⟨p, o, none⟩))] w fun e w' => e = .returned (.iface 3 (.int .i64 (gt S 0))) ∧
      ∃ v' S', SpAt w' p o v' S' ∧ (gt S 0 :: S').Perm S ∧ HeapN S' S'.length ∧ Turned (Hp p v) w w' ∧ v'.ownBlock = v.ownBlock ∧ BlkTo p o v' w w' := by
  obtain ⟨g, c, rfl, hgp, _⟩ := h.shape (by omega)
  rw [hm] at h
  have hL := find_len w p o _ h.cell 233
  have hW := find_swap w p o _ h.cell 233
  have HA := hide (HeapAt.start h hm)
  have HM := hide hm
  have HH := hide hh
  have hmI : ((m + 1 : Nat) : Int) - 1 = (m : Int) := by omega
  clear h hm hh
  go_enter Try.func57, Try.ntmps57
  go_wp2_with fail
  refine (spare_len _ _ (m + 1) c).mono ?_
  rintro e w1 ⟨rfl, rfl⟩
  clear hL
  go_wp2_with fail
  refine (spare_swap w g (m + 1) c 0 m S HA.out.own HA.out.len (by omega) (by omega) (by omega)).mono ?_
  rintro e w2 ⟨rfl, ho2, hg2⟩
  have H2 := hide (HA.out.swapped (i := 0) (j := m) (by omega) (by omega) hg2 ho2)
  have HD := hide (down_start HH.out HM.out)
  have G2 : Hid (gt (swp2 S 0 m) m = gt S 0) := hide (by rw [gt_swp (by have := HM.out; omega) (by have := HM.out; omega), if_pos rfl])
  obtain ⟨S2, hS2⟩ : ∃ S2, swp2 S 0 m = S2 := ⟨_, rfl⟩
  rw [hS2] at H2 HD G2
  clear hW ho2 hg2 hS2
  go_wp2_with fail
  refine (heap_down w2 p o g (m + 1) c m S2 (HeapAt.start H2.out.at_ H2.out.len) (by omega) HD.out (by omega)).mono ?_
  rintro e w3 ⟨⟨b, rfl⟩, S3, h3, hh3, hk3⟩
  have H3 := hide h3
  have HH3 := hide hh3
  have HK3 := hide hk3
  clear h3 hh3 hk3
  go_wp2_with fail
  refine (spare_pop w3 p o m _ S3 (by have := H3.out.at_; exact this) H3.out.len (by omega)).mono ?_
  rintro e w4 ⟨rfl, v4, h4, ht4, hv4, hb4⟩
  have hg3 : gt S3 m = gt S 0 := by rw [HK3.out m (Nat.le_refl _), G2.out]
  rw [hg3]
  have hl4 : (S3.take m).length = m := by rw [List.length_take, H3.out.len]; omega
  have H4 := hide h4
  have HT4 := hide ht4
  have HV4 := hide hv4
  have HB4 := hide hb4
  have HL4 := hide hl4
  have HG3 := hide hg3
  clear h4 ht4 hv4 hl4 hg3 hb4
  go_wp2
  go_ret
  refine ⟨rfl, v4, _, H4.out, ?_, by rw [HL4.out]; exact heap_take HH3.out, ?_, HV4.out, fun t cs hb => HB4.out t cs (H3.out.turned.blk (H2.out.turned.blk hb (fun e => hgp e.symm)) (fun e => hgp e.symm))⟩
  · have e : S3 = S3.take m ++ [gt S 0] := by
      have hl := H3.out.len
      rw [← HG3.out]
      have h1 : S3.drop m = [gt S3 m] := by
        rw [List.drop_eq_getElem_cons (by omega), List.drop_of_length_le (by omega)]
        unfold gt
        rw [List.getD_eq_getElem?_getD, List.getElem?_eq_getElem (by omega)]
        rfl
      rw [← h1, List.take_append_drop]
    have h1 : (gt S 0 :: S3.take m).Perm S3 := by
      have := (List.perm_append_singleton (gt S 0) (S3.take m)).symm
      rw [← e] at this
      exact this
    exact h1.trans (H3.out.perm.trans H2.out.perm)
  · have t2 : Turned (Hp p (.slice (some ⟨g, 0, none⟩) (m + 1) c)) w w2 := H2.out.turned.mono (fun i hi => .inr (by rw [hi]; rfl))
    have t3 := t2.trans H3.out.turned (fun i hi => .inl (.inr (by rw [hi]; rfl)))
    have t4 := t3.trans HT4.out (fun i hi => .inl (.inl hi))
    exact t4.mono (fun i hi => hi)
end Go.Proofs.Yteadjgahmlcaiaa
