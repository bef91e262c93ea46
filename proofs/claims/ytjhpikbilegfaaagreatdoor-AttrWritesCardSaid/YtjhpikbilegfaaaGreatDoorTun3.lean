/-
  What which and identifier of package pmsi do, in whatever memory. The one condition of identifier: the tunnel's Root and Id are right.
-/
import Derived.Test.YtjhpikbilegfaaaGreatDoorTun2
import Derived.Test.YtjhpikbilegfaaaGreatDoorConcatB
import Derived.Test.YtjhpikbilegfaaaGreatDoorExec
import Derived.Test.YtjhpikbilegfaaaGreatDoorNum
namespace Go.Proofs.YtjhpikbilegfaaaGreatDoor
open Go.RowKit
set_option linter.unusedVariables false
set_option linter.unusedSimpArgs false

theorem at_zeros (w : World) (n : Nat) (bs : List UInt8) (hb : bs = List.replicate n 0) (hn : 0 < n) : At (w.alloc (.cells (madeCells #[.int .u8 0] n) 5)) w.heap.size (w.heap.size + 1) (some ⟨w.heap.size, 0, none⟩) n bs := by
  subst hb
  refine ⟨by simp, fun _ => ⟨_, 0, rfl, Nat.le_refl _, by omega, fun j u hu => ?_⟩⟩
  have hj : j < n := by have := (List.getElem?_eq_some_iff.1 hu).1; simpa using this
  rw [Nat.zero_add, (Blk.new w _ _).cell j]
  have h : (madeCells #[Value.int .u8 0] n)[j]? = (madeCells #[Value.int .u8 0] n).toList[j]? := by simp
  rw [h, toList_madeCells_one]
  rw [List.getElem?_replicate] at hu ⊢
  rw [if_pos hj] at hu ⊢
  injection hu with hu
  subst hu
  rfl
theorem tunC_slice (lf : Bool) (k l s : Int) (bs : List UInt8) (A : Option Addr) (n c : Nat) : (Value.slice A n c).oneCell' = true := rfl
set_option maxRecDepth 20000 in
theorem which_any (w : World) (lf : Bool) (k l s : Int) (bs : List UInt8) (v : Value) (hl : bs.length = 16) (hs : s = 0 ∨ s = 4 ∨ s = 16) :
    Calls Tryz.prog 103 #[.agg (tunC lf k l s bs v)] w fun e w' => ∃ x, e = .returned x ∧ w'.ownsRow w.heap.size 5 1 x 4 (bvs (whichR k s)) ∧ Below w.heap.size w w' := by
  have c1 := tunC_1 lf k l s v bs
  have c3 := tunC_3 lf k l s v bs
  have W0 : Hid (Below w.heap.size w (w.alloc (.cells (tunC lf k l s bs v) 51))) := hide ((Below.refl _ _).alloc (Nat.le_refl _) _)
  have OWN : ∀ (x : World) (g : Nat) (a b z : UInt8) (cs : Array Value), g = x.heap.size → cs = #[.int .u8 (a.toNat : Int), .int .u8 0, .int .u8 (b.toNat : Int), .int .u8 (z.toNat : Int)] → w.heap.size ≤ x.heap.size →
      (x.alloc (.cells cs 5)).ownsRow w.heap.size 5 1 (.slice (some ⟨g, 0, none⟩) 4 4) 4 (bvs [a, 0, b, z]) := by
    rintro x g a b z cs rfl rfl h
    exact own_of_blk (Blk.new x _ _) h (Nat.le_refl _) (by unfold maxLen; decide) rfl rfl
  have HO := hide OWN
  clear OWN hl
  by_cases hk : k = 7
  · subst hk
    rcases hs with rfl | rfl | rfl
    · go_enter Tryz.func103, Tryz.ntmps103
      go_wp2
      go_ret
      exact ⟨_, rfl, HO.out _ _ 7 1 0 _ (by simp) rfl W0.out.size, W0.out.alloc W0.out.size _⟩
    · go_enter Tryz.func103, Tryz.ntmps103
      go_wp2
      go_ret
      exact ⟨_, rfl, HO.out _ _ 7 1 4 _ (by simp) rfl W0.out.size, W0.out.alloc W0.out.size _⟩
    · go_enter Tryz.func103, Tryz.ntmps103
      go_wp2
      go_ret
      exact ⟨_, rfl, HO.out _ _ 7 2 16 _ (by simp) rfl W0.out.size, W0.out.alloc W0.out.size _⟩
  · have e7 : (k == 7) = false := beq_eq_false_iff_ne.2 hk
    have hw : whichR k s = [6, 0, if s = 16 then 2 else 1, UInt8.ofNat s.toNat] := by unfold whichR; rw [if_neg hk]
    rw [hw]
    clear hw hk
    rcases hs with rfl | rfl | rfl
    · go_enter Tryz.func103, Tryz.ntmps103
      go_wp2
      go_ret
      exact ⟨_, rfl, HO.out _ _ 6 1 0 _ (by simp) rfl W0.out.size, W0.out.alloc W0.out.size _⟩
    · go_enter Tryz.func103, Tryz.ntmps103
      go_wp2
      go_ret
      exact ⟨_, rfl, HO.out _ _ 6 1 4 _ (by simp) rfl W0.out.size, W0.out.alloc W0.out.size _⟩
    · go_enter Tryz.func103, Tryz.ntmps103
      go_wp2
      go_ret
      exact ⟨_, rfl, HO.out _ _ 6 2 16 _ (by simp) rfl W0.out.size, W0.out.alloc W0.out.size _⟩
/-- what stands while identifier goes on: the boxed tunnel, its Id, its Root's bytes, a row of the call's own -/
structure IdAt (w x : World) (lf : Bool) (k l s : Int) (bs : List UInt8) (A : Option Addr) (n c hi : Nat) (id : List UInt8) (B : Option Addr) (m d : Nat) (root : List UInt8) : Prop where
  blk : Blk x w.heap.size 51 (tunC lf k l s bs (.slice A n c))
  id_ : At x 0 hi A n id
  row : x.ownsRow (w.heap.size + 1) 5 1 (.slice B m d) m (bvs root)
  bel : Below w.heap.size w x
section
variable {w x y : World} {lf : Bool} {k l s : Int} {bs : List UInt8} {A : Option Addr} {n c hi : Nat} {id : List UInt8} {B : Option Addr} {m d : Nat} {root : List UInt8}
theorem IdAt.on (h : IdAt w x lf k l s bs A n c hi id B m d root) (hh : hi ≤ w.heap.size) (hb : Below x.heap.size x y) : IdAt w y lf k l s bs A n c hi id B m d root :=
  ⟨h.blk.over hb, h.id_.below (hb.mono (Nat.le_trans hh h.bel.size)), own_over h.row hb, below_step h.bel hb (Nat.le_refl _)⟩
theorem IdAt.drew (h : IdAt w x lf k l s bs A n c hi id B m d root) : IdAt w x.drew lf k l s bs A n c hi id B m d root := ⟨h.1, h.2, h.3, below_drew h.4⟩
theorem IdAt.alloc (h : IdAt w x lf k l s bs A n c hi id B m d root) (hh : hi ≤ w.heap.size) (o : Obj) : IdAt w (x.alloc o) lf k l s bs A n c hi id B m d root := h.on hh ((Below.refl _ _).alloc (Nat.le_refl _) o)
end
set_option maxRecDepth 20000 in
set_option maxHeartbeats 4000000 in
theorem identifier_any (w : World) (lf : Bool) (k l s : Int) (bs : List UInt8) (A : Option Addr) (n c hi : Nat) (id : List UInt8) (hA : At w 0 hi A n id) (hh : hi ≤ w.heap.size) (hl : bs.length = 16) (hc : n ≤ c)
    (hr : rightA s bs = true) (hi_ : identB k s id = true) :
    Calls Tryz.prog 88 #[.agg (tunC lf k l s bs (.slice A n c))] w fun e w' => ∃ v, e = .returned v ∧ w'.ownsRow w.heap.size 5 1 v (identR k s bs id).length (bvs (identR k s bs id)) ∧ Below w.heap.size w w' := by
  obtain ⟨i0, hi0, hz0, hz1, hz2⟩ := info_parts u8_info
  have c1 := tunC_1 lf k l s (.slice A n c) bs
  have c20 := tunC_20 lf k l s (.slice A n c) hl
  have hk := ident_kind hi_
  have hs := sizeOf_right hr
  have hlen := hA.len
  have HL := hide hl
  have HBL := hide (bytesA_lenT hl hr)
  have HN := hide (Blk.new w 51 (tunC lf k l s bs (.slice A n c)))
  have HA := hide hA
  have HID := hide hi_
  have HS := hide hs
  have hm16 : (bytesA s bs).length ≤ 16 := by rw [HBL.out]; omega
  have hidn : n ≤ 64 := by
    unfold identB at hi_
    rw [hlen] at hi_
    rcases hk with rfl | rfl | rfl | rfl | rfl | rfl | rfl | rfl <;> simp at hi_ <;> omega
  obtain ⟨R, hR⟩ : ∃ R, bytesA s bs = R := ⟨_, rfl⟩
  have HR := hide hR
  have HM : Hid (R.length ≤ 16) := hide (by rw [← hR]; exact hm16)
  have HLEN := hide hlen
  have HIN := hide hidn
  have HIR : Hid (identR k s bs id = if k = 1 then id.take 4 ++ ([0, 0] ++ (id.drop 4 ++ R)) else if k = 2 ∨ k = 7 then whichR k s ++ (R ++ (be 2 n ++ id)) else if k = 3 ∨ k = 4 ∨ k = 5 then R ++ id else R) := by
    unfold identR
    rw [hR, hlen]
    exact hide rfl
  have W0 : Hid (Below w.heap.size w (w.alloc (.cells (tunC lf k l s bs (.slice A n c)) 51))) := hide ((Below.refl _ _).alloc (Nat.le_refl _) _)
  clear hl hA hlen hr hm16 hR hidn
  go_enter Tryz.func88, Tryz.ntmps88
  go_wp2_with (with_reducible refine wpList_load_root rfl (.tmp 4) rfl w.heap.size rfl HN.out HL.out ?_)
  refine (bytes_any _ s bs HL.out).mono ?_
  rw [HR.out]
  rintro e w1 ⟨v1, rfl, ho1, hb1⟩
  obtain ⟨B1, d1, rfl, hd1, _⟩ := own_shape ho1
  have c1' : w1.cell? ⟨w.heap.size, 1, none⟩ = some (.int .i64 k) := ((HN.out.over hb1).cell 1).trans c1
  have c20' : w1.cell? ⟨w.heap.size, 20, none⟩ = some (.slice A n c) := ((HN.out.over hb1).cell 20).trans c20
  have ID1 : Hid (IdAt w w1 lf k l s bs A n c hi id B1 R.length d1 R) := hide ⟨HN.out.over hb1, HA.out.below ((W0.out.trans (hb1.mono (by simp))).mono hh), own_more ho1 (by simp), below_step W0.out hb1 (Nat.le_refl _)⟩
  have hz1' : w.heap.size + 1 ≤ w1.heap.size := by have := hb1.size; simpa using this
  clear c1 c20 ho1 hb1
  rcases hk with rfl | rfl | rfl | rfl | rfl | rfl | rfl | rfl
  · have hv : identR 0 s bs id = R := by rw [HIR.out]; rfl
    have HV := hide hv
    clear hv
    go_wp2
    go_ret
    refine ⟨_, rfl, ?_, ID1.out.bel⟩
    rw [HV.out]
    exact own_more ID1.out.row (by omega)
  · have hn6 : n = 6 := by
      have h := HID.out
      unfold identB at h
      rw [if_neg (by decide), if_pos rfl, decide_eq_true_eq] at h
      rw [← HLEN.out]
      exact h.2
    subst hn6
    obtain ⟨ab, ao, rfl, _, _, _⟩ := ID1.out.id_.2 (by decide)
    have hv : identR 1 s bs id = [id.take 4, [0, 0], id.drop 4, R].flatten := by rw [HIR.out]; simp
    have HV := hide hv
    clear hv
    have hc4 : (4 : Int) ≤ (c : Int) := by omega
    have hc5 : ¬ c = 4 := by omega
    have HTL : Hid (∀ x : World, At x 0 hi (some ⟨ab, ao, none⟩) 6 id → At x 0 hi (some ⟨ab, ao + 4, none⟩) 2 (id.drop 4)) := hide (fun x h => by
      have h2 := h.tail (k := 4) (c := 100) (by decide) (by decide)
      rw [if_neg (by decide)] at h2
      simpa [add_plain] using h2)
    go_wp2_with fail
    refine wp_region_held_drew (S := fun x => IdAt w x lf 1 l s bs (some ⟨ab, ao, none⟩) 6 c hi id B1 R.length d1 R) (by kernel_rfl) ID1.out.drew (fun hHeld => ?_)
    refine region_take (i := 0) (v := ?_) rfl (by kernel_rfl) (by kernel_rfl) (by kernel_rfl) (fun _ _ _ h => h) (Or.inl ⟨by rfl, ?_⟩) (by assumption) ?_
    rotate_left
    · (intro w' hSw; (try dsimp only at hSw); go_simp <;> with_reducible rfl)
    simp only [Act.put, List.setIfInBounds_toArray, List.set_cons_zero, List.set_cons_succ]
    refine region_take (i := 1) (v := ?_) rfl (by kernel_rfl) (by kernel_rfl) (by kernel_rfl) (fun _ _ _ h => h) (Or.inl ⟨by rfl, ?_⟩) (by assumption) ?_
    rotate_left
    · (intro w' hSw; have kc := (hSw.blk.cell 20).trans (tunC_20 lf 1 l s _ HL.out); go_simp <;> with_reducible rfl)
    simp only [Act.put, List.setIfInBounds_toArray, List.set_cons_zero, List.set_cons_succ]
    refine region_take (i := 2) (v := ?_) rfl (by kernel_rfl) (by kernel_rfl) (by kernel_rfl) (fun _ _ _ h => h) (Or.inl ⟨by rfl, ?_⟩) (by assumption) ?_
    rotate_left
    · (intro w' hSw; (try dsimp only at hSw); go_simp <;> with_reducible rfl)
    simp only [Act.put, List.setIfInBounds_toArray, List.set_cons_zero, List.set_cons_succ]
    refine region_take (i := 4) (v := ?_) rfl (by kernel_rfl) (by kernel_rfl) (by kernel_rfl) (fun _ _ _ h => h) (Or.inl ⟨by rfl, ?_⟩) (by assumption) ?_
    rotate_left
    · (intro w' hSw; (try dsimp only at hSw); go_simp <;> with_reducible rfl)
    simp only [Act.put, List.setIfInBounds_toArray, List.set_cons_zero, List.set_cons_succ]
    refine region_take (i := 5) (v := ?_) rfl (by kernel_rfl) (by kernel_rfl) (by kernel_rfl) (fun _ _ _ h => h) (Or.inl ⟨by rfl, ?_⟩) (by assumption) ?_
    rotate_left
    · (intro w' hSw; have kc := (hSw.blk.cell 20).trans (tunC_20 lf 1 l s _ HL.out); go_simp <;> with_reducible rfl)
    simp only [Act.put, List.setIfInBounds_toArray, List.set_cons_zero, List.set_cons_succ]
    refine region_take (i := 6) (v := ?_) rfl (by kernel_rfl) (by kernel_rfl) (by kernel_rfl) (fun _ _ _ h => h) (Or.inl ⟨by rfl, ?_⟩) (by assumption) ?_
    rotate_left
    · (intro w' hSw; (try dsimp only at hSw); go_simp <;> with_reducible rfl)
    simp only [Act.put, List.setIfInBounds_toArray, List.set_cons_zero, List.set_cons_succ]
    refine region_take (i := 7) (v := ?_) rfl (by kernel_rfl) (by kernel_rfl) (by kernel_rfl) (fun _ _ _ h => h) (Or.inl ⟨by rfl, ?_⟩) (by assumption) ?_
    rotate_left
    · (intro w' hSw; (try dsimp only at hSw); go_simp <;> with_reducible rfl)
    simp only [Act.put, List.setIfInBounds_toArray, List.set_cons_zero, List.set_cons_succ]
    refine region_run (i := 3) (v := (.slice (some ⟨w1.heap.size, 0, none⟩) 2 2)) rfl (by kernel_rfl) (by rfl) (exec_make (.const (.int .i64 2)) (.const (.int .i64 2)) 42 rfl 5 i0 Tryz.underlying42 hi0 hz0 hz1 hz2 2 2 2 rfl rfl rfl (Nat.le_refl _) (by decide)) (hHeld.alloc hh _) (fun hHeld => ?_)
    simp only [Act.put, List.setIfInBounds_toArray, List.set_cons_zero, List.set_cons_succ]
    have PZ : Hid (At (w1.drew.alloc (.cells (madeCells #[.int .u8 0] 2) 5)) 0 (w1.drew.alloc (.cells (madeCells #[.int .u8 0] 2) 5)).heap.size (some ⟨w1.heap.size, 0, none⟩) 2 [0, 0]) := hide ((at_zeros w1.drew 2 [0, 0] rfl (by decide)).more (Nat.zero_le _) (by simp))
    generalize hx2 : w1.drew.alloc (.cells (madeCells #[.int .u8 0] 2) 5) = x2 at PZ hHeld ⊢
    clear hx2
    refine region_run (w' := x2.alloc (.cells #[.slice (some ⟨ab, ao, none⟩) 4 c, .slice (some ⟨w1.heap.size, 0, none⟩) 2 2, .slice (some ⟨ab, ao + 4, none⟩) 2 (c - 4), .slice B1 R.length d1] 42)) (i := 8) (v := .slice (some ⟨x2.heap.size, 0, none⟩) 4 4) rfl (by kernel_rfl) (by rfl) ?_ (hHeld.alloc hh _) (fun hHeld => ?_)
    · (go_simp <;> with_reducible rfl)
    simp only [Act.put, List.setIfInBounds_toArray, List.set_cons_zero, List.set_cons_succ]
    have hid4 : At (x2.alloc (.cells #[.slice (some ⟨ab, ao, none⟩) 4 c, .slice (some ⟨w1.heap.size, 0, none⟩) 2 2, .slice (some ⟨ab, ao + 4, none⟩) 2 (c - 4), .slice B1 R.length d1] 42)) 0 hi (some ⟨ab, ao, none⟩) 6 id := hHeld.id_
    have hh3 : hi ≤ (x2.alloc (.cells #[.slice (some ⟨ab, ao, none⟩) 4 c, .slice (some ⟨w1.heap.size, 0, none⟩) 2 2, .slice (some ⟨ab, ao + 4, none⟩) 2 (c - 4), .slice B1 R.length d1] 42)).heap.size := Nat.le_trans hh hHeld.bel.size
    have RW := rows4 (c1 := c) (c2 := 2) (c3 := c - 4) (c4 := d1) ((hid4.head (k := 4) (by decide)).more (Nat.le_refl _) hh3) ((PZ.out.alloc (Nat.le_refl _) (.cells #[.slice (some ⟨ab, ao, none⟩) 4 c, .slice (some ⟨w1.heap.size, 0, none⟩) 2 2, .slice (some ⟨ab, ao + 4, none⟩) 2 (c - 4), .slice B1 R.length d1] 42)).more (Nat.le_refl _) (by simp)) ((HTL.out _ hid4).more (Nat.le_refl _) hh3) ((At.own hHeld.row).more (Nat.zero_le _) (Nat.le_refl _))
    have hsum : [id.take 4, [0, 0], id.drop 4, R].flatten.length ≤ 140737488351000 := by have h1 := HLEN.out; have h2 := HM.out; simp; omega
    have hz4 := hHeld.bel.size
    refine region_call (i := 9) rfl (by kernel_rfl) (by rfl) (concatB_any _ x2.heap.size 42 _ _ 4 rfl (by decide) (Blk.new x2 _ _) RW hsum) (fun w => by kernel_rfl) ?_
    rintro e w4 ⟨v4, rfl, ho4, hb4⟩
    refine ⟨_, rfl, hHeld.on hh hb4, fun hHeld => ?_⟩
    simp only [Act.put, List.setIfInBounds_toArray, List.set_cons_zero, List.set_cons_succ]
    have HO4 := hide (own_more ho4 hz4)
    have HB4 := hide hHeld.bel
    clear ho4 hb4 hid4 hh3 RW hsum hz4
    refine region_take (i := 10) (v := ?_) rfl (by kernel_rfl) (by kernel_rfl) (by kernel_rfl) (fun _ _ _ h => h) (Or.inl ⟨by rfl, ?_⟩) (by assumption) ?_
    rotate_left
    · (intro w' hSw; (try dsimp only at hSw); go_simp <;> with_reducible rfl)
    simp only [Act.put, List.setIfInBounds_toArray, List.set_cons_zero, List.set_cons_succ]
    refine wpAnyH_done (by kernel_rfl) ?_ _
    go_wp2
    go_ret
    exact ⟨_, rfl, by rw [HV.out]; exact HO4.out, HB4.out⟩
  · have hv : identR 2 s bs id = whichR 2 s ++ (R ++ (be 2 n ++ id)) := by rw [HIR.out]; rfl
    have HV := hide hv
    clear hv
    go_wp2_with fail
    refine wp_region_held_drew (S := fun x => IdAt w x lf 2 l s bs A n c hi id B1 R.length d1 R) (by kernel_rfl) ID1.out.drew (fun hHeld => ?_)
    refine region_take (i := 0) (v := (.agg (tunC lf 2 l s bs (.slice A n c)))) rfl (by kernel_rfl) (by kernel_rfl) (by kernel_rfl) (fun _ _ _ h => h) (Or.inl ⟨by rfl, ?_⟩) (by assumption) ?_
    · (intro w' hSw; exact exec_load_tun (.tmp 1) rfl w.heap.size rfl hSw.blk HL.out)
    simp only [Act.put, List.setIfInBounds_toArray, List.set_cons_zero, List.set_cons_succ]
    refine region_take (i := 2) (v := ?_) rfl (by kernel_rfl) (by kernel_rfl) (by kernel_rfl) (fun _ _ _ h => h) (Or.inl ⟨by rfl, ?_⟩) (by assumption) ?_
    rotate_left
    · (intro w' hSw; (try dsimp only at hSw); go_simp <;> with_reducible rfl)
    simp only [Act.put, List.setIfInBounds_toArray, List.set_cons_zero, List.set_cons_succ]
    refine region_take (i := 4) (v := ?_) rfl (by kernel_rfl) (by kernel_rfl) (by kernel_rfl) (fun _ _ _ h => h) (Or.inl ⟨by rfl, ?_⟩) (by assumption) ?_
    rotate_left
    · (intro w' hSw; (try dsimp only at hSw); go_simp <;> with_reducible rfl)
    simp only [Act.put, List.setIfInBounds_toArray, List.set_cons_zero, List.set_cons_succ]
    refine region_take (i := 5) (v := ?_) rfl (by kernel_rfl) (by kernel_rfl) (by kernel_rfl) (fun _ _ _ h => h) (Or.inl ⟨by rfl, ?_⟩) (by assumption) ?_
    rotate_left
    · (intro w' hSw; have kc := (hSw.blk.cell 20).trans (tunC_20 lf 2 l s _ HL.out); go_simp <;> with_reducible rfl)
    simp only [Act.put, List.setIfInBounds_toArray, List.set_cons_zero, List.set_cons_succ]
    refine region_take (i := 6) (v := ?_) rfl (by kernel_rfl) (by kernel_rfl) (by kernel_rfl) (fun _ _ _ h => h) (Or.inl ⟨by rfl, ?_⟩) (by assumption) ?_
    rotate_left
    · (intro w' hSw; (try dsimp only at hSw); go_simp <;> with_reducible rfl)
    simp only [Act.put, List.setIfInBounds_toArray, List.set_cons_zero, List.set_cons_succ]
    have ID2 := hide hHeld
    refine region_call (i := 1) rfl (by kernel_rfl) (by rfl) (which_any _ lf 2 l s bs (.slice A n c) HL.out HS.out) (fun w => by kernel_rfl) ?_
    rintro e w2 ⟨v2, rfl, ho2, hb2⟩
    refine ⟨_, rfl, hHeld.on hh hb2, fun hHeld => ?_⟩
    simp only [Act.put, List.setIfInBounds_toArray, List.set_cons_zero, List.set_cons_succ]
    obtain ⟨v3, w3, hrun, ho3, hg3, _⟩ := run_append_bytes (P := Tryz.prog) w2 w1.drew.heap.size 42 42 5 i0 Tryz.underlying42 hi0 hz0 hz1 hz2 v2 4 (whichR 2 s) ho2 (w.heap.size + 1) w2.heap.size B1 R.length d1 R (At.own hHeld.row) (by have := HM.out; omega) hb2.size
    have hb3 : Below w1.drew.heap.size w1.drew w3 := hb2.grown hg3 hb2.size (fun g hg => (ho2.lt g hg).1)
    refine region_run (i := 3) (v := v3) rfl (by kernel_rfl) (by rfl) (exec_append (.tmp 30) (.tmp 31) _ _ _ rfl rfl rfl rfl hrun) (ID2.out.on hh hb3) (fun hHeld => ?_)
    simp only [Act.put, List.setIfInBounds_toArray, List.set_cons_zero, List.set_cons_succ]
    obtain ⟨A3, c3, rfl, _, _⟩ := own_shape ho3
    have HO3 := hide ho3
    have HB3 := hide hb3
    clear ho2 hb2 ho3 hg3 hb3 hrun
    refine region_call (i := 7) rfl (by kernel_rfl) (by rfl) (put_yes _ w1.drew.heap.size w3.heap.size A3 (4 + R.length) c3 (whichR 2 s ++ R) (At.own HO3.out) (Nat.le_refl _) (by have := HM.out; omega) n 2 (by decide) (by decide) (by have := HIN.out; omega)) (fun w => by kernel_rfl) ?_
    rintro e w4 ⟨v4, rfl, ho4, hb4⟩
    refine ⟨_, rfl, hHeld.on hh hb4, fun hHeld => ?_⟩
    simp only [Act.put, List.setIfInBounds_toArray, List.set_cons_zero, List.set_cons_succ]
    refine region_take (i := 8) (v := ?_) rfl (by kernel_rfl) (by kernel_rfl) (by kernel_rfl) (fun _ _ _ h => h) (Or.inl ⟨by rfl, ?_⟩) (by assumption) ?_
    rotate_left
    · (intro w' hSw; (try dsimp only at hSw); go_simp <;> with_reducible rfl)
    simp only [Act.put, List.setIfInBounds_toArray, List.set_cons_zero, List.set_cons_succ]
    refine region_take (i := 9) (v := ?_) rfl (by kernel_rfl) (by kernel_rfl) (by kernel_rfl) (fun _ _ _ h => h) (Or.inl ⟨by rfl, ?_⟩) (by assumption) ?_
    rotate_left
    · (intro w' hSw; (try dsimp only at hSw); go_simp <;> with_reducible rfl)
    simp only [Act.put, List.setIfInBounds_toArray, List.set_cons_zero, List.set_cons_succ]
    refine region_take (i := 10) (v := ?_) rfl (by kernel_rfl) (by kernel_rfl) (by kernel_rfl) (fun _ _ _ h => h) (Or.inl ⟨by rfl, ?_⟩) (by assumption) ?_
    rotate_left
    · (intro w' hSw; (try dsimp only at hSw); go_simp <;> with_reducible rfl)
    simp only [Act.put, List.setIfInBounds_toArray, List.set_cons_zero, List.set_cons_succ]
    refine region_take (i := 11) (v := ?_) rfl (by kernel_rfl) (by kernel_rfl) (by kernel_rfl) (fun _ _ _ h => h) (Or.inl ⟨by rfl, ?_⟩) (by assumption) ?_
    rotate_left
    · (intro w' hSw; (try dsimp only at hSw); go_simp <;> with_reducible rfl)
    simp only [Act.put, List.setIfInBounds_toArray, List.set_cons_zero, List.set_cons_succ]
    refine wpAnyH_done (by kernel_rfl) ?_ _
    obtain ⟨A4, c4, rfl, _, _⟩ := own_shape ho4
    have HO4 := hide ho4
    have HB4 := hide hb4
    have ID4 := hide hHeld
    have c20' : w4.cell? ⟨w.heap.size, 20, none⟩ = some (.slice A n c) := (hHeld.blk.cell 20).trans (tunC_20 lf 2 l s _ HL.out)
    have hz3 : w.heap.size ≤ w3.heap.size := Nat.le_trans (by omega : w.heap.size ≤ w1.heap.size) HB3.out.size
    clear ho4 hb4 hHeld
    go_wp2_with (at_builtin; go_must (refine wpList_append_bytes _ rfl (.tmp 39) (.tmp 41) _ rfl w3.heap.size 5 i0 Tryz.underlying42 hi0 hz0 hz1 hz2 (.slice A4 (4 + R.length + 2) c4) (4 + R.length + 2) (whichR 2 s ++ R ++ be 2 n) rfl HO4.out 0 hi A n c id rfl ID4.out.id_ (by have := HM.out; have := HIN.out; omega) HB4.out.size ?_); intro v5 w5 ho5 hg5 ha5; have HO5 := hide ho5; have HG5 := hide hg5; clear ho5 hg5 ha5)
    go_ret
    refine ⟨_, rfl, ?_, ID4.out.bel.grown HG5.out ID4.out.bel.size (fun g hg => Nat.le_trans hz3 (HO4.out.lt g hg).1)⟩
    have hvl : identR 2 s bs id = whichR 2 s ++ R ++ be 2 n ++ id := by rw [HV.out]; simp
    have hvn : (whichR 2 s ++ R ++ be 2 n ++ id).length = 4 + R.length + 2 + n := by rw [List.length_append, List.length_append, List.length_append, be_len, HLEN.out]; rfl
    rw [hvl, hvn]
    exact own_more HO5.out hz3
  · have hv : identR 3 s bs id = R ++ id := by rw [HIR.out]; rfl
    have HV := hide hv
    clear hv
    go_wp2_with (at_builtin; go_must (refine wpList_append_bytes _ rfl (.tmp 39) (.tmp 41) _ rfl (w.heap.size + 1) 5 i0 Tryz.underlying42 hi0 hz0 hz1 hz2 (.slice B1 R.length d1) R.length R rfl ID1.out.row 0 hi A n c id rfl ID1.out.id_ (by have := HM.out; have := HIN.out; omega) hz1' ?_); intro v3 w3 ho3 hg3 ha3; have HO3 := hide ho3; have HG3 := hide hg3; clear ho3 hg3 ha3)
    go_ret
    refine ⟨_, rfl, ?_, ID1.out.bel.grown HG3.out ID1.out.bel.size (fun g hg => by have := (ID1.out.row.lt g hg).1; omega)⟩
    rw [HV.out, List.length_append, HLEN.out]
    exact own_more HO3.out (by omega)
  · have hv : identR 4 s bs id = R ++ id := by rw [HIR.out]; rfl
    have HV := hide hv
    clear hv
    go_wp2_with (at_builtin; go_must (refine wpList_append_bytes _ rfl (.tmp 39) (.tmp 41) _ rfl (w.heap.size + 1) 5 i0 Tryz.underlying42 hi0 hz0 hz1 hz2 (.slice B1 R.length d1) R.length R rfl ID1.out.row 0 hi A n c id rfl ID1.out.id_ (by have := HM.out; have := HIN.out; omega) hz1' ?_); intro v3 w3 ho3 hg3 ha3; have HO3 := hide ho3; have HG3 := hide hg3; clear ho3 hg3 ha3)
    go_ret
    refine ⟨_, rfl, ?_, ID1.out.bel.grown HG3.out ID1.out.bel.size (fun g hg => by have := (ID1.out.row.lt g hg).1; omega)⟩
    rw [HV.out, List.length_append, HLEN.out]
    exact own_more HO3.out (by omega)
  · have hv : identR 5 s bs id = R ++ id := by rw [HIR.out]; rfl
    have HV := hide hv
    clear hv
    go_wp2_with (at_builtin; go_must (refine wpList_append_bytes _ rfl (.tmp 39) (.tmp 41) _ rfl (w.heap.size + 1) 5 i0 Tryz.underlying42 hi0 hz0 hz1 hz2 (.slice B1 R.length d1) R.length R rfl ID1.out.row 0 hi A n c id rfl ID1.out.id_ (by have := HM.out; have := HIN.out; omega) hz1' ?_); intro v3 w3 ho3 hg3 ha3; have HO3 := hide ho3; have HG3 := hide hg3; clear ho3 hg3 ha3)
    go_ret
    refine ⟨_, rfl, ?_, ID1.out.bel.grown HG3.out ID1.out.bel.size (fun g hg => by have := (ID1.out.row.lt g hg).1; omega)⟩
    rw [HV.out, List.length_append, HLEN.out]
    exact own_more HO3.out (by omega)
  · have hv : identR 6 s bs id = R := by rw [HIR.out]; rfl
    have HV := hide hv
    clear hv
    go_wp2
    go_ret
    refine ⟨_, rfl, ?_, ID1.out.bel⟩
    rw [HV.out]
    exact own_more ID1.out.row (by omega)
  · have hv : identR 7 s bs id = whichR 7 s ++ (R ++ (be 2 n ++ id)) := by rw [HIR.out]; rfl
    have HV := hide hv
    clear hv
    go_wp2_with fail
    refine wp_region_held_drew (S := fun x => IdAt w x lf 7 l s bs A n c hi id B1 R.length d1 R) (by kernel_rfl) ID1.out.drew (fun hHeld => ?_)
    refine region_take (i := 0) (v := (.agg (tunC lf 7 l s bs (.slice A n c)))) rfl (by kernel_rfl) (by kernel_rfl) (by kernel_rfl) (fun _ _ _ h => h) (Or.inl ⟨by rfl, ?_⟩) (by assumption) ?_
    · (intro w' hSw; exact exec_load_tun (.tmp 1) rfl w.heap.size rfl hSw.blk HL.out)
    simp only [Act.put, List.setIfInBounds_toArray, List.set_cons_zero, List.set_cons_succ]
    refine region_take (i := 2) (v := ?_) rfl (by kernel_rfl) (by kernel_rfl) (by kernel_rfl) (fun _ _ _ h => h) (Or.inl ⟨by rfl, ?_⟩) (by assumption) ?_
    rotate_left
    · (intro w' hSw; (try dsimp only at hSw); go_simp <;> with_reducible rfl)
    simp only [Act.put, List.setIfInBounds_toArray, List.set_cons_zero, List.set_cons_succ]
    refine region_take (i := 4) (v := ?_) rfl (by kernel_rfl) (by kernel_rfl) (by kernel_rfl) (fun _ _ _ h => h) (Or.inl ⟨by rfl, ?_⟩) (by assumption) ?_
    rotate_left
    · (intro w' hSw; (try dsimp only at hSw); go_simp <;> with_reducible rfl)
    simp only [Act.put, List.setIfInBounds_toArray, List.set_cons_zero, List.set_cons_succ]
    refine region_take (i := 5) (v := ?_) rfl (by kernel_rfl) (by kernel_rfl) (by kernel_rfl) (fun _ _ _ h => h) (Or.inl ⟨by rfl, ?_⟩) (by assumption) ?_
    rotate_left
    · (intro w' hSw; have kc := (hSw.blk.cell 20).trans (tunC_20 lf 7 l s _ HL.out); go_simp <;> with_reducible rfl)
    simp only [Act.put, List.setIfInBounds_toArray, List.set_cons_zero, List.set_cons_succ]
    refine region_take (i := 6) (v := ?_) rfl (by kernel_rfl) (by kernel_rfl) (by kernel_rfl) (fun _ _ _ h => h) (Or.inl ⟨by rfl, ?_⟩) (by assumption) ?_
    rotate_left
    · (intro w' hSw; (try dsimp only at hSw); go_simp <;> with_reducible rfl)
    simp only [Act.put, List.setIfInBounds_toArray, List.set_cons_zero, List.set_cons_succ]
    have ID2 := hide hHeld
    refine region_call (i := 1) rfl (by kernel_rfl) (by rfl) (which_any _ lf 7 l s bs (.slice A n c) HL.out HS.out) (fun w => by kernel_rfl) ?_
    rintro e w2 ⟨v2, rfl, ho2, hb2⟩
    refine ⟨_, rfl, hHeld.on hh hb2, fun hHeld => ?_⟩
    simp only [Act.put, List.setIfInBounds_toArray, List.set_cons_zero, List.set_cons_succ]
    obtain ⟨v3, w3, hrun, ho3, hg3, _⟩ := run_append_bytes (P := Tryz.prog) w2 w1.drew.heap.size 42 42 5 i0 Tryz.underlying42 hi0 hz0 hz1 hz2 v2 4 (whichR 7 s) ho2 (w.heap.size + 1) w2.heap.size B1 R.length d1 R (At.own hHeld.row) (by have := HM.out; omega) hb2.size
    have hb3 : Below w1.drew.heap.size w1.drew w3 := hb2.grown hg3 hb2.size (fun g hg => (ho2.lt g hg).1)
    refine region_run (i := 3) (v := v3) rfl (by kernel_rfl) (by rfl) (exec_append (.tmp 30) (.tmp 31) _ _ _ rfl rfl rfl rfl hrun) (ID2.out.on hh hb3) (fun hHeld => ?_)
    simp only [Act.put, List.setIfInBounds_toArray, List.set_cons_zero, List.set_cons_succ]
    obtain ⟨A3, c3, rfl, _, _⟩ := own_shape ho3
    have HO3 := hide ho3
    have HB3 := hide hb3
    clear ho2 hb2 ho3 hg3 hb3 hrun
    refine region_call (i := 7) rfl (by kernel_rfl) (by rfl) (put_yes _ w1.drew.heap.size w3.heap.size A3 (4 + R.length) c3 (whichR 7 s ++ R) (At.own HO3.out) (Nat.le_refl _) (by have := HM.out; omega) n 2 (by decide) (by decide) (by have := HIN.out; omega)) (fun w => by kernel_rfl) ?_
    rintro e w4 ⟨v4, rfl, ho4, hb4⟩
    refine ⟨_, rfl, hHeld.on hh hb4, fun hHeld => ?_⟩
    simp only [Act.put, List.setIfInBounds_toArray, List.set_cons_zero, List.set_cons_succ]
    refine region_take (i := 8) (v := ?_) rfl (by kernel_rfl) (by kernel_rfl) (by kernel_rfl) (fun _ _ _ h => h) (Or.inl ⟨by rfl, ?_⟩) (by assumption) ?_
    rotate_left
    · (intro w' hSw; (try dsimp only at hSw); go_simp <;> with_reducible rfl)
    simp only [Act.put, List.setIfInBounds_toArray, List.set_cons_zero, List.set_cons_succ]
    refine region_take (i := 9) (v := ?_) rfl (by kernel_rfl) (by kernel_rfl) (by kernel_rfl) (fun _ _ _ h => h) (Or.inl ⟨by rfl, ?_⟩) (by assumption) ?_
    rotate_left
    · (intro w' hSw; (try dsimp only at hSw); go_simp <;> with_reducible rfl)
    simp only [Act.put, List.setIfInBounds_toArray, List.set_cons_zero, List.set_cons_succ]
    refine region_take (i := 10) (v := ?_) rfl (by kernel_rfl) (by kernel_rfl) (by kernel_rfl) (fun _ _ _ h => h) (Or.inl ⟨by rfl, ?_⟩) (by assumption) ?_
    rotate_left
    · (intro w' hSw; (try dsimp only at hSw); go_simp <;> with_reducible rfl)
    simp only [Act.put, List.setIfInBounds_toArray, List.set_cons_zero, List.set_cons_succ]
    refine region_take (i := 11) (v := ?_) rfl (by kernel_rfl) (by kernel_rfl) (by kernel_rfl) (fun _ _ _ h => h) (Or.inl ⟨by rfl, ?_⟩) (by assumption) ?_
    rotate_left
    · (intro w' hSw; (try dsimp only at hSw); go_simp <;> with_reducible rfl)
    simp only [Act.put, List.setIfInBounds_toArray, List.set_cons_zero, List.set_cons_succ]
    refine wpAnyH_done (by kernel_rfl) ?_ _
    obtain ⟨A4, c4, rfl, _, _⟩ := own_shape ho4
    have HO4 := hide ho4
    have HB4 := hide hb4
    have ID4 := hide hHeld
    have c20' : w4.cell? ⟨w.heap.size, 20, none⟩ = some (.slice A n c) := (hHeld.blk.cell 20).trans (tunC_20 lf 7 l s _ HL.out)
    have hz3 : w.heap.size ≤ w3.heap.size := Nat.le_trans (by omega : w.heap.size ≤ w1.heap.size) HB3.out.size
    clear ho4 hb4 hHeld
    go_wp2_with (at_builtin; go_must (refine wpList_append_bytes _ rfl (.tmp 39) (.tmp 41) _ rfl w3.heap.size 5 i0 Tryz.underlying42 hi0 hz0 hz1 hz2 (.slice A4 (4 + R.length + 2) c4) (4 + R.length + 2) (whichR 7 s ++ R ++ be 2 n) rfl HO4.out 0 hi A n c id rfl ID4.out.id_ (by have := HM.out; have := HIN.out; omega) HB4.out.size ?_); intro v5 w5 ho5 hg5 ha5; have HO5 := hide ho5; have HG5 := hide hg5; clear ho5 hg5 ha5)
    go_ret
    refine ⟨_, rfl, ?_, ID4.out.bel.grown HG5.out ID4.out.bel.size (fun g hg => Nat.le_trans hz3 (HO4.out.lt g hg).1)⟩
    have hvl : identR 7 s bs id = whichR 7 s ++ R ++ be 2 n ++ id := by rw [HV.out]; simp
    have hvn : (whichR 7 s ++ R ++ be 2 n ++ id).length = 4 + R.length + 2 + n := by rw [List.length_append, List.length_append, List.length_append, be_len, HLEN.out]; rfl
    rw [hvl, hvn]
    exact own_more HO5.out hz3
end Go.Proofs.YtjhpikbilegfaaaGreatDoor
