/-
  What the document's own Hex of layer 3 does. The one condition: at most 1,000,000 bytes.
  What the document's own Named of layer 3 does. The one condition: numbers below 2^32, a kind of at most 20 signs.
  What the document's own Text of layer 3 does. No condition.
  What the document's own Unhex of layer 3 does. The one condition: a text of at most 2,000,000 bytes.
  What the document's own split of layer 3 does. The one condition: a text of at most 2,000,000 bytes.
-/
import Derived.Test.YtdkoicfenehjcaaDoorDocSix
import Derived.Test.YtdkoicfenehjcaaDoorRefRd
import Derived.Test.YtdkoicfenehjcaaDoorRef2
namespace Go.Proofs.YtdkoicfenehjcaaDoor
open Go.RowKit
set_option linter.unusedVariables false
set_option linter.unusedSimpArgs false

/-- append of two bytes -/
theorem run_append_two (w : World) (ty : TypeId) (base : Nat) (v : Value) (n : Nat) (xs : List UInt8) (hown : w.ownsRow base 5 1 v n (bvs xs)) (g : Nat) (t : TypeId) (y z : UInt8) (hb : Blk w g t #[bv y, bv z]) (hn : n ≤ 8000000000000) (hbase : base ≤ w.heap.size) :
    ∃ v' w', (Builtin.append_ #[31, 31] ty #[v, .slice (some ⟨g, 0, none⟩) 2 2]).run Tryd.prog w = .ok v' w' ∧ w'.ownsRow base 5 1 v' (n + 2) (bvs (xs ++ [y, z])) ∧ w.grownBy w' v.ownBlock := by
  obtain ⟨i0, hi0, hz0, hz1, hz2⟩ := info_parts u8_info
  obtain ⟨v', w', hrun, h2, h3, _, _⟩ := run_append_own_at (P := Tryd.prog) w base 31 ty 5 i0 (.int .u8 0) 1 1 Tryd.underlying31 hi0 hz0 hz1 hz2 rfl (by omega) v n (bvs xs) hown ⟨g, 0, none⟩ 2 2 [bv y, bv z]
    rfl (by
      intro j u hu
      match j, hu with
      | 0, hu =>
        simp at hu
        subst hu
        exact hb.cell 0
      | 1, hu =>
        simp at hu
        subst hu
        exact hb.cell 1) (by
      intro u hu
      simp at hu
      rcases hu with rfl | rfl <;> rfl) (by unfold maxLen; omega) (by omega) hbase
  refine ⟨v', w', hrun, ?_, h3⟩
  rw [bvs_append]
  exact h2
theorem exec_indexAddr_sl {o : Oper} {a : Act} {w : World} {b k n c j : Nat} (x y : Operand) (ho : o.op = .indexAddr 31 x y) (hx : a.eval x = .slice (some ⟨b, k, none⟩) n c) (hy : a.eval y = .int .i64 (j : Int)) (hj : j < n) :
    (execOp a.eval o).run Tryd.prog w = .ok (.value (.pointer (some ⟨b, k + j, none⟩))) w := by
  unfold execOp
  simp only [ho, hx, hy]
  have h1 : (j : Int) < n := by omega
  go_simp
theorem exec_quo16 {o : Oper} {a : Act} {w : World} {v : UInt8} (x : Operand) (ho : o.op = .binOp .quo 5 x (.const (.int .u8 16)) 5) (hx : a.eval x = .int .u8 (v.toNat : Int)) :
    (execOp a.eval o).run Tryd.prog w = .ok (.value (.int .u8 ((v.toNat / 16 : Nat) : Int))) w := by
  unfold execOp
  have h2 := v.toNat_lt
  have hc : a.eval (.const (.int .u8 16)) = .int .u8 16 := rfl
  simp only [ho, hx, hc]
  go_simp
  rw [IntKind.wrap_u8]; omega
theorem exec_rem16 {o : Oper} {a : Act} {w : World} {v : UInt8} (x : Operand) (ho : o.op = .binOp .rem 5 x (.const (.int .u8 16)) 5) (hx : a.eval x = .int .u8 (v.toNat : Int)) :
    (execOp a.eval o).run Tryd.prog w = .ok (.value (.int .u8 ((v.toNat % 16 : Nat) : Int))) w := by
  unfold execOp
  have h2 := v.toNat_lt
  have hc : a.eval (.const (.int .u8 16)) = .int .u8 16 := rfl
  simp only [ho, hx, hc]
  go_simp
  exact Int.tmod_eq_emod_of_nonneg (by omega)
theorem exec_index_hex {o : Oper} {a : Act} {w : World} {j : Nat} (x y : Operand) (ho : o.op = .index 9 x y) (hx : a.eval x = .string hexSigns) (hy : a.eval y = .int .u8 (j : Int)) (hj : j < 16) :
    (execOp a.eval o).run Tryd.prog w = .ok (.value (.int .u8 ((sign j).toNat : Int))) w := by
  unfold execOp
  have hs : hexSigns.size = 16 := rfl
  have h2 := get_hex j hj (by rw [hs]; exact hj)
  simp only [ho, hx, hy]
  have h1 : (j : Int) < 16 := by omega
  go_simp
set_option maxRecDepth 20000 in
set_option maxHeartbeats 2000000 in
theorem refhex_any (w : World) (lo hi : Nat) (A : Option Addr) (n c : Nat) (bs : List UInt8) (h : At w lo hi A n bs) (hh : hi ≤ w.heap.size) (hn : n ≤ 1000000) :
    Calls Tryd.prog 85 #[.slice A n c] w fun e w' => e = .returned (.string ⟨(hexs bs).toArray⟩) ∧ Below w.heap.size w w' := by
  have H := hide h
  clear h
  go_enter Tryd.func85, Tryd.ntmps85
  go_wp2
  go_loopw [4, 5] (fun rv iv wr => ∃ (j m k : Nat) (B : Option Addr), j ≤ n ∧ m = 2 * j ∧ rv = .slice B m k ∧ iv = .int .i64 (j : Int) ∧ wr.ownsRow w.heap.size 5 1 (.slice B m k) m (bvs (hexs (bs.take j))) ∧ Below w.heap.size w wr) (fun _ iv _ => n - (intOf iv).toNat)
  case atStart => exact ⟨0, 0, 0, none, Nat.zero_le _, rfl, rfl, rfl, by simpa [bvs, hexs] using World.ownsRow_nil _ _ _ _, Below.refl _ _⟩
  case round =>
    obtain ⟨j, m, k, B, hj, hm, rfl, rfl, hown, hbel⟩ := hrel
    have HO := hide hown
    have HBE := hide hbel
    have HM := hide hm
    clear hown hbel hm
    by_cases hlt : j < n
    · obtain ⟨b, o, u, rfl, hu, hcell⟩ := H.out.at_ hlt
      have hul := u.toNat_lt
      have hblt : (⟨b, o + j, none⟩ : Addr).block < w.heap.size := World.block_lt_of_cell? _ _ hcell
      have HC : Hid (w.cell? ⟨b, o + j, none⟩ = some (.int .u8 (u.toNat : Int))) := hcell
      have HT := hide (hexs_take hu)
      have hltI : (j : Int) < n := by omega
      clear hu hcell
      go_wp2_with fail
      refine wp_region_held_drew (S := fun x => Below w.heap.size w x) (by kernel_rfl) (below_drew HBE.out) (fun hHeld => ?_)
      refine region_take (i := 0) (v := ?_) rfl (by kernel_rfl) (by kernel_rfl) (by kernel_rfl) (fun _ _ _ h => h) (Or.inl ⟨by rfl, ?_⟩) (by assumption) ?_
      rotate_left
      · (intro w' hSw; (try dsimp only at hSw); go_simp <;> with_reducible rfl)
      simp only [Act.put, List.setIfInBounds_toArray, List.set_cons_zero, List.set_cons_succ]
      refine region_take (i := 1) (v := ?_) rfl (by kernel_rfl) (by kernel_rfl) (by kernel_rfl) (fun _ _ _ h => h) (Or.inl ⟨by rfl, ?_⟩) (by assumption) ?_
      rotate_left
      · (intro w' hSw; (try dsimp only at hSw); go_simp <;> with_reducible rfl)
      simp only [Act.put, List.setIfInBounds_toArray, List.set_cons_zero, List.set_cons_succ]
      refine region_take (i := 2) (v := ?_) rfl (by kernel_rfl) (by kernel_rfl) (by kernel_rfl) (fun _ _ _ h => h) (Or.inl ⟨by rfl, ?_⟩) (by assumption) ?_
      rotate_left
      · (intro w' hSw; (try dsimp only at hSw); go_simp <;> with_reducible rfl)
      simp only [Act.put, List.setIfInBounds_toArray, List.set_cons_zero, List.set_cons_succ]
      refine region_take (i := 3) (v := ?_) rfl (by kernel_rfl) (by kernel_rfl) (by kernel_rfl) (fun _ _ _ h => h) (Or.inl ⟨by rfl, ?_⟩) (by assumption) ?_
      rotate_left
      · (intro w' hSw; (try dsimp only at hSw); go_simp <;> with_reducible rfl)
      simp only [Act.put, List.setIfInBounds_toArray, List.set_cons_zero, List.set_cons_succ]
      refine region_take (i := 4) (v := (.pointer (some ⟨b, o + j, none⟩))) rfl (by kernel_rfl) (by kernel_rfl) (by kernel_rfl) (fun _ _ _ h => h) (Or.inl ⟨by rfl, ?_⟩) (by assumption) ?_
      · (intro w' hSw; exact exec_indexAddr_sl (.tmp 14) (.tmp 15) rfl rfl rfl hlt)
      simp only [Act.put, List.setIfInBounds_toArray, List.set_cons_zero, List.set_cons_succ]
      refine region_take (i := 5) (v := (.int .u8 (u.toNat : Int))) rfl (by kernel_rfl) (by kernel_rfl) (by kernel_rfl) (fun _ _ _ h => h) (Or.inl ⟨by rfl, ?_⟩) (by assumption) ?_
      · (intro w' hSw; exact exec_load_u8 (.tmp 16) rfl rfl ((hSw.cell hblt).trans HC.out))
      simp only [Act.put, List.setIfInBounds_toArray, List.set_cons_zero, List.set_cons_succ]
      refine region_take (i := 6) (v := (.int .u8 ((u.toNat / 16 : Nat) : Int))) rfl (by kernel_rfl) (by kernel_rfl) (by kernel_rfl) (fun _ _ _ h => h) (Or.inl ⟨by rfl, ?_⟩) (by assumption) ?_
      · (intro w' hSw; exact exec_quo16 (.tmp 17) rfl rfl)
      simp only [Act.put, List.setIfInBounds_toArray, List.set_cons_zero, List.set_cons_succ]
      refine region_take (i := 7) (v := (.int .u8 ((sign (u.toNat / 16)).toNat : Int))) rfl (by kernel_rfl) (by kernel_rfl) (by kernel_rfl) (fun _ _ _ h => h) (Or.inl ⟨by rfl, ?_⟩) (by assumption) ?_
      · (intro w' hSw; exact exec_index_hex (.tmp 13) (.tmp 18) rfl rfl rfl (by omega))
      simp only [Act.put, List.setIfInBounds_toArray, List.set_cons_zero, List.set_cons_succ]
      refine region_take (i := 8) (v := ?_) rfl (by kernel_rfl) (by kernel_rfl) (by kernel_rfl) (fun _ _ _ h => h) (Or.inl ⟨by rfl, ?_⟩) (by assumption) ?_
      rotate_left
      · (intro w' hSw; (try dsimp only at hSw); go_simp <;> with_reducible rfl)
      simp only [Act.put, List.setIfInBounds_toArray, List.set_cons_zero, List.set_cons_succ]
      refine region_take (i := 9) (v := ?_) rfl (by kernel_rfl) (by kernel_rfl) (by kernel_rfl) (fun _ _ _ h => h) (Or.inl ⟨by rfl, ?_⟩) (by assumption) ?_
      rotate_left
      · (intro w' hSw; (try dsimp only at hSw); go_simp <;> with_reducible rfl)
      simp only [Act.put, List.setIfInBounds_toArray, List.set_cons_zero, List.set_cons_succ]
      refine region_take (i := 10) (v := ?_) rfl (by kernel_rfl) (by kernel_rfl) (by kernel_rfl) (fun _ _ _ h => h) (Or.inl ⟨by rfl, ?_⟩) (by assumption) ?_
      rotate_left
      · (intro w' hSw; (try dsimp only at hSw); go_simp <;> with_reducible rfl)
      simp only [Act.put, List.setIfInBounds_toArray, List.set_cons_zero, List.set_cons_succ]
      refine region_take (i := 11) (v := (.pointer (some ⟨b, o + j, none⟩))) rfl (by kernel_rfl) (by kernel_rfl) (by kernel_rfl) (fun _ _ _ h => h) (Or.inl ⟨by rfl, ?_⟩) (by assumption) ?_
      · (intro w' hSw; exact exec_indexAddr_sl (.tmp 21) (.tmp 22) rfl rfl rfl hlt)
      simp only [Act.put, List.setIfInBounds_toArray, List.set_cons_zero, List.set_cons_succ]
      refine region_take (i := 12) (v := (.int .u8 (u.toNat : Int))) rfl (by kernel_rfl) (by kernel_rfl) (by kernel_rfl) (fun _ _ _ h => h) (Or.inl ⟨by rfl, ?_⟩) (by assumption) ?_
      · (intro w' hSw; exact exec_load_u8 (.tmp 23) rfl rfl ((hSw.cell hblt).trans HC.out))
      simp only [Act.put, List.setIfInBounds_toArray, List.set_cons_zero, List.set_cons_succ]
      refine region_take (i := 13) (v := (.int .u8 ((u.toNat % 16 : Nat) : Int))) rfl (by kernel_rfl) (by kernel_rfl) (by kernel_rfl) (fun _ _ _ h => h) (Or.inl ⟨by rfl, ?_⟩) (by assumption) ?_
      · (intro w' hSw; exact exec_rem16 (.tmp 24) rfl rfl)
      simp only [Act.put, List.setIfInBounds_toArray, List.set_cons_zero, List.set_cons_succ]
      refine region_take (i := 14) (v := (.int .u8 ((sign (u.toNat % 16)).toNat : Int))) rfl (by kernel_rfl) (by kernel_rfl) (by kernel_rfl) (fun _ _ _ h => h) (Or.inl ⟨by rfl, ?_⟩) (by assumption) ?_
      · (intro w' hSw; exact exec_index_hex (.tmp 20) (.tmp 25) rfl rfl rfl (by omega))
      simp only [Act.put, List.setIfInBounds_toArray, List.set_cons_zero, List.set_cons_succ]
      refine region_run (i := 15) (v := .slice (some ⟨wr.heap.size, 0, none⟩) 2 2) (w' := wr.drew.alloc (.cells #[bv (sign (u.toNat / 16)), bv (sign (u.toNat % 16))] 5)) rfl (by kernel_rfl) (by rfl) ?_ (hHeld.alloc (by have := HBE.out.size; simpa using this) _) (fun hHeld => ?_)
      · (go_simp <;> first | with_reducible rfl | rfl)
      simp only [Act.put, List.setIfInBounds_toArray, List.set_cons_zero, List.set_cons_succ]
      obtain ⟨v', w', hrun, hown', hg'⟩ := run_append_two (wr.drew.alloc (.cells #[bv (sign (u.toNat / 16)), bv (sign (u.toNat % 16))] 5)) 31 w.heap.size (.slice B m k) m _ (HO.out.drew.alloc _) wr.heap.size _ (sign (u.toNat / 16)) (sign (u.toNat % 16)) (Blk.new wr.drew _ _) (by have := HM.out; omega) (by have := HBE.out.size; simp; omega)
      have hbel' : Below w.heap.size w w' := hHeld.grown hg' (by have := HBE.out.size; simp; omega) (fun g hg => (HO.out.lt g hg).1)
      refine region_run (i := 16) (v := v') (w' := w') rfl (by kernel_rfl) (by rfl) ?_ hbel' (fun hHeld => ?_)
      · exact exec_append (.tmp 12) (.tmp 27) _ _ _ rfl rfl rfl rfl hrun
      simp only [Act.put, List.setIfInBounds_toArray, List.set_cons_zero, List.set_cons_succ]
      refine region_take (i := 17) (v := ?_) rfl (by kernel_rfl) (by kernel_rfl) (by kernel_rfl) (fun _ _ _ h => h) (Or.inl ⟨by rfl, ?_⟩) (by assumption) ?_
      rotate_left
      · (intro w' hSw; (try dsimp only at hSw); go_simp <;> with_reducible rfl)
      simp only [Act.put, List.setIfInBounds_toArray, List.set_cons_zero, List.set_cons_succ]
      refine wpAnyH_done (by kernel_rfl) ?_ _
      obtain ⟨A3, c3, rfl, _, _⟩ := own_shape hown'
      have htk : hexs (bs.take j) ++ [sign (u.toNat / 16), sign (u.toNat % 16)] = hexs (bs.take (j + 1)) := by rw [HT.out, List.append_assoc]; rfl
      rw [htk] at hown'
      have HO3 := hide hown'
      have HBE3 := hide hbel'
      clear hown' hbel' hg' hrun htk
      go_wp2
      go_roundw
      case rel => exact ⟨j + 1, m + 2, c3, A3, by omega, by have := HM.out; omega, rfl, by go_num, HO3.out, HBE3.out⟩
      case measure => simp [intOf]; omega
    · obtain rfl : j = n := by omega
      have HF : Hid (bs.take j = bs) := hide (List.take_of_length_le (by rw [H.out.len]; exact Nat.le_refl _))
      have HA := At.own HO.out
      rw [HF.out] at HA
      have hcv : (convert 31 9 (.slice B m k)).run Tryd.prog wr = .ok (.string ⟨(hexs bs).toArray⟩) wr := HA.text _ 5 Tryd.underlying31 Tryd.underlying5 _ _ Tryd.underlying9
      clear HA
      go_wp2
      go_ret
      exact ⟨rfl, HBE.out⟩
end Go.Proofs.YtdkoicfenehjcaaDoor
namespace Go.Proofs.YtdkoicfenehjcaaDoor
open Go.RowKit
set_option linter.unusedVariables false
set_option linter.unusedSimpArgs false

theorem named_text (K H N : List UInt8) : (⟨K.toArray⟩ ++ ⟨#[58]⟩ ++ ⟨H.toArray⟩ ++ ⟨#[58]⟩ ++ ⟨N.toArray⟩ : ByteArray) = ⟨(K ++ 58 :: (H ++ 58 :: N)).toArray⟩ := by
  rw [ByteArray.mk_append_mk, ByteArray.mk_append_mk, ByteArray.mk_append_mk, ByteArray.mk_append_mk]
  simp
set_option maxRecDepth 20000 in
set_option maxHeartbeats 2000000 in
theorem refnamed_no (w : World) (K : List UInt8) (hK : K.length ≤ 20) (h l : Nat) (hh : h < 4294967296) (hl : l < 4294967296) :
    Calls Tryd.prog 86 #[.string ⟨K.toArray⟩, .int .i64 (h : Int), .int .i64 (l : Int), .bool false] w fun e w' => e = .returned (.string ⟨(K ++ 58 :: (numeral 10 h ++ 58 :: numeral 10 l)).toArray⟩) ∧ Below w.heap.size w w' := by
  have HT := hide (named_text K (numeral 10 h) (numeral 10 l))
  have n1 := numeral_len (b := 10) (by decide) 9 h (by omega)
  have n2 := numeral_len (b := 10) (by decide) 9 l (by omega)
  obtain ⟨H, hH⟩ : ∃ H, numeral 10 h = H := ⟨_, rfl⟩
  obtain ⟨N, hN⟩ : ∃ N, numeral 10 l = N := ⟨_, rfl⟩
  rw [hH] at n1 HT ⊢
  rw [hN] at n2 HT ⊢
  have HH := hide hH
  have HN := hide hN
  clear hH hN
  go_enter Tryd.func86, Tryd.ntmps86
  go_wp2_with fail
  refine (refnumber_any 10 (.inl rfl) h hh _).mono ?_
  rintro e w1 ⟨rfl, q1, rfl⟩
  rw [HH.out]
  go_wp2_with fail
  refine (refnumber_any 10 (.inl rfl) l hl _).mono ?_
  rintro e w2 ⟨rfl, q2, rfl⟩
  rw [HN.out]
  go_wp2
  go_ret
  exact ⟨by rw [← HT.out]; rfl, below_drewN (Below.refl _ _) _⟩
set_option maxRecDepth 20000 in
set_option maxHeartbeats 2000000 in
theorem refnamed_one (w : World) (K : List UInt8) (hK : K.length ≤ 20) (h l : Nat) (hh : h < 4294967296) (hl : l < 4294967296) :
    Calls Tryd.prog 86 #[.string ⟨K.toArray⟩, .int .i64 (h : Int), .int .i64 (l : Int), .bool true] w fun e w' => e = .returned (.string ⟨(K ++ 58 :: (textA (ofS (be 4 h)) (ofB (be 4 h)) ++ 58 :: numeral 10 l)).toArray⟩) ∧ Below w.heap.size w w' := by
  have HT := hide (named_text K (textA (ofS (be 4 h)) (ofB (be 4 h))) (numeral 10 l))
  have hol : (ofB (be 4 h)).length = 16 := ofB_len _ (by rw [be_len]; decide)
  have n1 := textA_len (ofS (be 4 h)) hol
  have n2 := numeral_len (b := 10) (by decide) 9 l (by omega)
  have HBL := hide (be_len 4 h)
  have h256 : h < 256 ^ 4 := by have : (256 : Nat) ^ 4 = 4294967296 := by decide
                                omega
  have H256 := hide h256
  obtain ⟨B, hB⟩ : ∃ B, be 4 h = B := ⟨_, rfl⟩
  rw [hB] at n1 HT hol HBL ⊢
  have HB := hide hB
  obtain ⟨s, hs⟩ : ∃ s, ofS B = s := ⟨_, rfl⟩
  obtain ⟨bs, hbs⟩ : ∃ bs, ofB B = bs := ⟨_, rfl⟩
  rw [hs, hbs] at n1 HT ⊢
  rw [hbs] at hol
  have HS := hide hs
  have HBS := hide hbs
  have HOL := hide hol
  obtain ⟨H, hH⟩ : ∃ H, textA s bs = H := ⟨_, rfl⟩
  obtain ⟨N, hN⟩ : ∃ N, numeral 10 l = N := ⟨_, rfl⟩
  rw [hH] at n1 HT ⊢
  rw [hN] at n2 HT ⊢
  have HH := hide hH
  have HN := hide hN
  clear hH hN hB hs hbs hol h256
  go_enter Tryd.func86, Tryd.ntmps86
  go_wp2_with fail
  refine (refnumber_any 10 (.inl rfl) h hh _).mono ?_
  rintro e w1 ⟨rfl, q1, rfl⟩
  have W1 := hide (below_drewN (Below.refl w.heap.size w) q1)
  obtain ⟨w1, hw1⟩ : ∃ w1, w.drewN q1 = w1 := ⟨_, rfl⟩
  rw [hw1] at W1 ⊢
  clear hw1
  go_wp2_with fail
  refine (refbytes_any w1 h 4 (by decide) (by decide) H256.out).mono ?_
  rintro e w2 ⟨v, rfl, hown, hb2⟩
  rw [HB.out] at hown
  obtain ⟨A2, c2, rfl, _, _⟩ := own_shape hown
  have W2 := hide (below_step W1.out hb2 (Nat.le_refl _))
  have HA2 := hide (At.own hown)
  clear hown hb2
  go_wp2_with fail
  refine (refaof_any w2 _ _ _ _ _ _ HA2.out (Nat.le_refl _)).mono ?_
  rintro e w3 ⟨rfl, hb3⟩
  rw [HS.out, HBS.out]
  have W3 := hide (below_step W2.out hb3 (Nat.le_refl _))
  clear hb3
  go_wp2_with (first
    | (refine wpList_store_addr rfl (.tmp 10) (.tmp 19) rfl w3.heap.size rfl rfl HOL.out (Blk.new w3 _ _) rfl ?_; intro w6 hb6 hg6; have B6 := hide hb6; have W6 := hide (below_made W3.out (Nat.le_refl _) _ hg6 (Nat.le_refl _)); clear hb6 hg6)
    | (with_reducible refine wpList_load_addr rfl (.tmp 10) rfl w3.heap.size rfl B6.out HOL.out ?_))
  refine (reftext_any w6 s bs HOL.out).mono ?_
  rintro e w7 ⟨rfl, hb7⟩
  rw [HH.out]
  have W7 := hide (below_step W6.out hb7 (Nat.le_refl _))
  clear hb7
  go_wp2_with fail
  refine (refnumber_any 10 (.inl rfl) l hl _).mono ?_
  rintro e w8 ⟨rfl, q2, rfl⟩
  rw [HN.out]
  go_wp2
  go_ret
  exact ⟨by rw [← HT.out]; rfl, below_drewN W7.out _⟩
end Go.Proofs.YtdkoicfenehjcaaDoor
namespace Go.Proofs.YtdkoicfenehjcaaDoor
open Go.RowKit
set_option linter.unusedVariables false
set_option linter.unusedSimpArgs false

set_option maxRecDepth 20000 in
set_option maxHeartbeats 2000000 in
theorem refrdtext_any (w : World) (d : List UInt8) (hl : d.length = 8) :
    Calls Tryd.prog 55 #[.agg (rdC d)] w fun e w' => e = .returned (.string ⟨(textR d).toArray⟩) ∧ Below w.heap.size w w' := by
  have B0 : Hid (Blk (w.alloc (.cells (rdC d) 23)) w.heap.size 23 (rdC d)) := Blk.new w _ _
  have W0 : Hid (Below w.heap.size w (w.alloc (.cells (rdC d) 23))) := (Below.refl _ _).alloc (Nat.le_refl _) _
  have HL := hide hl
  by_cases hk : knownR d = true
  · have hp := parts_known hk
    have hk2 : knd d ≤ 2 := of_decide_eq_true hk
    have hv : textR d = numeral 10 (knd d) ++ 58 :: (hiT (knd d) (hiR d) ++ 58 :: numeral 10 (loR d)) := by
      unfold textR
      rw [if_pos hk]
    have h4 : (256 : Nat) ^ 4 = 4294967296 := by decide
    have HH : Hid (hiR d < 4294967296) := hide (by have := hi_lt hk; omega)
    have HLO : Hid (loR d < 4294967296) := hide (by have := lo_lt hl hk; omega)
    have HP := hide hp
    have HK := hide hk
    rw [hv]
    obtain ⟨K, hK⟩ : ∃ K, knd d = K := ⟨_, rfl⟩
    obtain ⟨H, hH⟩ : ∃ H, hiR d = H := ⟨_, rfl⟩
    obtain ⟨L, hL⟩ : ∃ L, loR d = L := ⟨_, rfl⟩
    rw [hK, hH, hL]
    rw [hK, hH, hL] at HP
    rw [hH] at HH
    rw [hL] at HLO
    rw [hK] at hk2
    have n1 := numeral_len (b := 10) (by decide) 0 K (by omega)
    clear hl hk hp hv hK hH hL h4
    by_cases h1 : K = 1
    · subst h1
      have HV : Hid (hiT 1 H = textA (ofS (be 4 H)) (ofB (be 4 H))) := hide (by unfold hiT; rw [if_pos rfl])
      have HN1 : ∀ w : World, Calls Tryd.prog 57 #[.int .i64 1, .int .i64 10] w fun e w' => e = .returned (.string ⟨(numeral 10 1).toArray⟩) ∧ ∃ q, w' = w.drewN q := fun w => refnumber_any 10 (.inl rfl) 1 (by decide) w
      rw [HV.out]
      go_enter Tryd.func55, Tryd.ntmps55
      go_wp2_with (with_reducible refine wpList_load_rd rfl (.tmp 1) rfl w.heap.size rfl B0.out HL.out ?_)
      refine (refparts_any _ d HL.out).mono ?_
      rintro e w1 ⟨rfl, hb1⟩
      rw [HK.out, HP.out.1, HP.out.2.1, HP.out.2.2]
      have W1 := hide (below_step W0.out hb1 (Nat.le_refl _))
      clear hb1
      go_wp2_with fail
      refine (HN1 _).mono ?_
      rintro e w2 ⟨rfl, q2, rfl⟩
      have W2 := hide (below_drewN W1.out q2)
      go_wp2_with fail
      refine (refnamed_one _ (numeral 10 1) (by omega) H L HH.out HLO.out).mono ?_
      rintro e w3 ⟨rfl, hb3⟩
      go_wp2_with fail
      go_ret
      exact ⟨rfl, below_step W2.out hb3 (Nat.le_refl _)⟩
    · have z1 : ((K : Int) == 1) = false := beq_eq_false_iff_ne.2 (by omega)
      have HV : Hid (hiT K H = numeral 10 H) := hide (by unfold hiT; rw [if_neg h1])
      rw [HV.out]
      go_enter Tryd.func55, Tryd.ntmps55
      go_wp2_with (with_reducible refine wpList_load_rd rfl (.tmp 1) rfl w.heap.size rfl B0.out HL.out ?_)
      refine (refparts_any _ d HL.out).mono ?_
      rintro e w1 ⟨rfl, hb1⟩
      rw [HK.out, HP.out.1, HP.out.2.1, HP.out.2.2]
      have W1 := hide (below_step W0.out hb1 (Nat.le_refl _))
      clear hb1
      go_wp2_with fail
      refine (refnumber_any 10 (.inl rfl) K (by omega) _).mono ?_
      rintro e w2 ⟨rfl, q2, rfl⟩
      have W2 := hide (below_drewN W1.out q2)
      go_wp2_with fail
      refine (refnamed_no _ (numeral 10 K) (by omega) H L HH.out HLO.out).mono ?_
      rintro e w3 ⟨rfl, hb3⟩
      go_wp2_with fail
      go_ret
      exact ⟨rfl, below_step W2.out hb3 (Nat.le_refl _)⟩
  · have hk' : knownR d = false := by simpa using hk
    have hv : textR d = [63, 58] ++ hexs d := by unfold textR; rw [if_neg hk]; rfl
    have HP := hide (parts_unknown hk')
    have HK := hide hk'
    have HV := hide hv
    have hxl : (hexs d).length ≤ 16 := by rw [hexs_len, hl]; decide
    clear hl hk hk' hv
    go_enter Tryd.func55, Tryd.ntmps55
    go_wp2_with (with_reducible refine wpList_load_rd rfl (.tmp 1) rfl w.heap.size rfl B0.out HL.out ?_)
    refine (refparts_any _ d HL.out).mono ?_
    rintro e w1 ⟨rfl, hb1⟩
    rw [HK.out, HP.out.1, HP.out.2.1, HP.out.2.2]
    have W1 := hide (below_step W0.out hb1 (Nat.le_refl _))
    have HA1 := hide (At.rd (B0.out.over hb1) HL.out)
    have hz1 := hb1.size
    clear hb1
    go_wp2_with fail
    refine (refhex_any w1 _ _ _ 8 8 d HA1.out (by simpa using hz1) (by decide)).mono ?_
    rintro e w2 ⟨rfl, hb2⟩
    go_wp2_with fail
    go_ret
    exact ⟨by rw [HV.out, ← ByteArray.mk_append_mk]; rfl, below_step W1.out hb2 (Nat.le_refl _)⟩
end Go.Proofs.YtdkoicfenehjcaaDoor
namespace Go.Proofs.YtdkoicfenehjcaaDoor
open Go.RowKit
set_option linter.unusedVariables false
set_option linter.unusedSimpArgs false

/-- the bytes of digits, two each; none, if two of them are none -/
def unhexP : List UInt8 → Option (List UInt8)
  | a :: b :: r => if digI 16 2 [a, b] < 0 then none else (unhexP r).map (UInt8.ofNat (digI 16 2 [a, b]).toNat :: ·)
  | _ => some []
def unhexL (s : List UInt8) : List UInt8 := (unhexP s).getD []
theorem digI_two {a b : UInt8} (h : ¬ digI 16 2 [a, b] < 0) : ∃ m : Nat, digI 16 2 [a, b] = (m : Int) ∧ m < 256 := by
  unfold digI at h ⊢
  rw [if_neg (by simp)] at h ⊢
  cases hq : numF 16 vast [a, b] 0 with
  | none => rw [hq] at h; simp at h
  | some m => exact ⟨m, rfl, by have := numF_lt (base := 16) (by decide) _ _ _ hq; simpa using this⟩
theorem unhex_bad {a b : UInt8} {r : List UInt8} (h : digI 16 2 [a, b] < 0) : unhexP (a :: b :: r) = none := by
  rw [unhexP, if_pos h]
theorem unhex_good {a b : UInt8} {r : List UInt8} {m : Nat} (h : digI 16 2 [a, b] = (m : Int)) : unhexP (a :: b :: r) = (unhexP r).map (UInt8.ofNat m :: ·) := by
  rw [unhexP, h, if_neg (by omega), Int.toNat_natCast]
theorem unhex_end {l : List UInt8} (h : l.length ≤ 1) : unhexP l = some [] := by
  match l, h with
  | [], _ => rfl
  | [_], _ => rfl
  | _ :: _ :: _, h => simp at h
theorem digI_hex (n : Nat) (h : n < 256) : digI 16 2 [sign (n / 16), sign (n % 16)] = (n : Int) := by
  have h0 : ∀ n : Fin 256, digI 16 2 [sign (n.1 / 16), sign (n.1 % 16)] = (n.1 : Int) := by decide +kernel
  exact h0 ⟨n, h⟩
/-- what Hex writes, Unhex reads -/
theorem unhexP_hexs : ∀ d : List UInt8, unhexP (hexs d) = some d
  | [] => rfl
  | b :: r => by
    rw [hexs, unhex_good (digI_hex b.toNat b.toNat_lt), unhexP_hexs r]
    simp
theorem unhexL_hexs (d : List UInt8) : unhexL (hexs d) = d := by
  unfold unhexL
  rw [unhexP_hexs]
  rfl
theorem sub_two (s : ByteArray) (e : Nat) {a b : UInt8} {r : List UInt8} (h : s.data.toList.drop e = a :: b :: r) : s.extract e (e + 2) = ⟨#[a, b]⟩ := by
  apply ByteArray.ext
  apply Array.toList_inj.1
  rw [ByteArray.data_extract, Array.toList_extract, List.extract_eq_take_drop, h, Nat.add_sub_cancel_left]
  rfl
end Go.Proofs.YtdkoicfenehjcaaDoor
namespace Go.Proofs.YtdkoicfenehjcaaDoor
open Go.RowKit
set_option linter.unusedVariables false
set_option linter.unusedSimpArgs false

end Go.Proofs.YtdkoicfenehjcaaDoor
