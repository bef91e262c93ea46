/-
  UrouteCodes returns true, whatever route, bytes and size come in. The one condition beyond sizes that fit memory: the library's tables hold what their texts lay.
-/
import Derived.Test.YtdkoicfenehjcaaDoorLawUBack
import Derived.Test.YtdkoicfenehjcaaDoorUrDoc4
import Derived.Test.YtdkoicfenehjcaaDoorRefs
namespace Go.Proofs.YtdkoicfenehjcaaDoor
open Go.RowKit
set_option linter.unusedVariables false
set_option linter.unusedSimpArgs false

theorem uc_row {w : World} {base : Nat} {v : Value} {n : Nat} {xs : List Value} (h : w.ownsRow base 5 1 v n xs) : OwnRow w base v := by
  rcases h.2 with ⟨h, _⟩ | ⟨g, cap, cur, h1, h2, h3, h4, h5, h6, _⟩
  · exact .inl h
  · exact .inr ⟨g, n, cap, cur, h1, h2, h3, by omega, h4, h5⟩
theorem uc_lent {w : World} {g n : Nat} {t : TypeId} {bs : List UInt8} {l : List Value} (hb : Blk w g t (bvs bs ++ l).toArray) (hl : bs.length = n) : At w g (g + 1) (some ⟨g, 0, none⟩) n bs :=
  ⟨hl, fun _ => ⟨g, 0, rfl, Nat.le_refl _, by omega, fun j u hu => by
    have hj : j < bs.length := (List.getElem?_eq_some_iff.1 hu).1
    rw [Nat.zero_add, hb.cell j]
    simp [bvs, List.getElem?_append, hj]
    rw [(List.getElem?_eq_some_iff.1 hu).2]⟩⟩

set_option maxRecDepth 20000 in
set_option maxHeartbeats 8000000 in
theorem ucodes_walk (w : World) (hg : Glob w) (u : Ur) (hu : u.W) (A : Option Addr) (n c : Nat) (bs : List UInt8) (hA : At w 0 w.heap.size A n bs) (hn : n ≤ c) (hc : c ≤ 140737488351232) (k : Int) (_hk : -9223372036854775808 ≤ k ∧ k ≤ 9223372036854775807) :
    Calls Tryd.prog 3 #[.agg (uroC u), .slice A n c, .int .i64 k] w fun e w' => e = .returned (.bool true) ∧ Below w.heap.size w w' := by
  have T0 := hide (UbS.start w u A n bs hA)
  have G0 := hide (hg.below T0.out.bl)
  have HU := hide hu
  have HL := hide hA.len
  obtain ⟨R, hR⟩ : ∃ R, takeRU bs k = R := ⟨_, rfl⟩
  have HR : Hid R.W := hide (by rw [← hR]; exact takeRU_W)
  obtain ⟨N, hN⟩ : ∃ N, takeNU bs k = N := ⟨_, rfl⟩
  obtain ⟨E, hE⟩ : ∃ E, takeEU bs k = E := ⟨_, rfl⟩
  obtain ⟨O, hO⟩ : ∃ O, bytesU u = O := ⟨_, rfl⟩
  obtain ⟨oe, hoe⟩ : ∃ O, errU u = O := ⟨_, rfl⟩
  obtain ⟨ra, hra⟩ : ∃ O, rightU u = O := ⟨_, rfl⟩
  have RA := hide hra
  have TK1 : Hid (∀ (x : World) (lo hi : Nat) (B : Option Addr) (m : Nat) (d : Nat), At x lo hi B m bs → hi ≤ x.heap.size → m ≤ d → m ≤ 10000000000000 → Calls Tryd.prog 12 #[.slice B m d, .int .i64 k] x fun e w' => e = .returned (.tuple #[.agg (uroC R), .int .i64 N, .int .i64 E]) ∧ Below x.heap.size x w') := hide (fun x lo hi B m d h1 h2 h3 h4 => by
    rw [← hR, ← hN, ← hE]
    exact utake_any x lo hi B m d bs k h1 h2 h3 h4)
  have TK2 : Hid (∀ (x : World) (lo hi : Nat) (B : Option Addr) (m : Nat) (d : Nat), At x lo hi B m bs → hi ≤ x.heap.size → m ≤ d → m ≤ 10000000000000 → Calls Tryd.prog 14 #[.slice B m d, .int .i64 k] x fun e w' => e = .returned (.tuple #[.agg (uroC R), .int .i64 N, .int .i64 E]) ∧ Below x.heap.size x w') := hide (fun x lo hi B m d h1 h2 h3 h4 => by
    rw [← hR, ← hN, ← hE]
    exact refutake_any x lo hi B m d bs h1 h2 h3 h4 k)
  have BY1 : Hid (∀ x : World, Calls Tryd.prog 11 #[.agg (uroC u)] x fun e w' => ∃ v, e = .returned (.tuple #[v, .int .i64 oe]) ∧ w'.ownsRow x.heap.size 5 1 v O.length (bvs O) ∧ Below x.heap.size x w') := hide (fun x => by rw [← hO, ← hoe]; exact ubytes_any x u hu)
  have BY2 : Hid (∀ x : World, Calls Tryd.prog 13 #[.agg (uroC u)] x fun e w' => ∃ v, e = .returned (.tuple #[v, .int .i64 oe]) ∧ w'.ownsRow x.heap.size 5 1 v O.length (bvs O) ∧ Below x.heap.size x w') := hide (fun x => by rw [← hO, ← hoe]; exact refubytes_any x u hu)
  clear hg hu hA _hk hR hN hE hO hoe hra
  go_enter Tryd.func3, Tryd.ntmps3
  go_wp2_with fail
  refine (usmall_any _ G0.out).mono ?_
  rintro e w1 ⟨rfl, hb⟩
  have T1 := hide (T0.out.over hb)
  clear hb T0 G0
  by_cases h96 : 4096 < (n : Int)
  · go_wp2
    go_ret
    exact ⟨rfl, T1.out.bl⟩
  have hn4 : n ≤ 4096 := by omega
  go_wp2_with fail
  clear h96
  refine (lent_any _ 0 w.heap.size A n c bs T1.out.b T1.out.bl.size (by omega)).mono ?_
  rintro e w2 ⟨rfl, hblk, hbel⟩
  have s1 := T1.out.a.lt
  obtain ⟨g, hg⟩ : ∃ g, w1.heap.size = g := ⟨_, rfl⟩
  have T2 := hide (T1.out.over hbel)
  rw [hg] at hblk s1 ⊢
  have K2 := hide hblk
  have s2 := hblk.lt
  clear hbel hblk hg T1
  go_wp2_with (with_reducible refine wpList_load_uro rfl (.tmp 3) rfl w.heap.size rfl T2.out.a HU.out ?_)
  refine (BY1.out w2).mono ?_
  rintro e w3 ⟨v3, rfl, ho, hb⟩
  obtain ⟨A3, c3, rfl, hc3, _⟩ := own_shape ho
  have O3 := hide ho
  have B3 : Hid (∀ a, (Value.slice A3 O.length c3).ownBlock = some a → a < w3.heap.size) := hide (fun a ha => (ho.lt a ha).2)
  have T3 := hide (T2.out.over hb)
  have K3 := hide (K2.out.over hb)
  have s3 := hb.size
  clear ho hb T2 K2
  go_wp2_with fail
  refine (TK1.out w3 g (g + 1) _ n (n + 1) (uc_lent K3.out HL.out) (by omega) (by omega) (by omega)).mono ?_
  rintro e w4 ⟨rfl, hb⟩
  have O4 := hide (own_over O3.out hb)
  have T4 := hide (T3.out.over hb)
  have K4 := hide (K3.out.over hb)
  have NEW := hide (Blk.new w4 30 #[.int .u8 0, .int .u8 0, .int .u8 0, .int .u8 0, .int .u8 0, .int .u8 0, .int .u8 0, .int .u8 0, .int .i64 0, .int .u8 0, .int .u8 0, .int .u8 0, .int .u8 0, .int .u8 0, .int .u8 0, .int .u8 0, .int .u8 0, .int .u8 0, .int .u8 0, .int .u8 0, .int .u8 0, .int .u8 0, .int .u8 0, .int .u8 0, .int .u8 0, .int .i64 0, .int .i64 0])
  have s4 := hb.size
  clear hb O3 T3 K3
  go_wp2_with (refine wpList_store_uro rfl (.tmp 11) (.tmp 38) rfl w4.heap.size rfl (u := R) rfl HR.out NEW.out rfl ?_; intro w5 hb5 hg5; have X5 := hide hb5; have W5 : Hid (Below w4.heap.size w4 w5) := hide (((Below.refl _ _).alloc (Nat.le_refl _) _).grown hg5 (by simp) (by simp)); clear hb5 hg5; refine Hid.out ?_)
  refine hide ?_
  clear NEW
  have O5 := hide (own_over O4.out W5.out)
  have T5 := hide (T4.out.over W5.out)
  have K5 := hide (K4.out.over W5.out)
  have s5 := X5.out.lt
  clear O4 T4 K4 W5
  go_wp2_with (with_reducible refine wpList_load_uro rfl (.tmp 3) rfl w.heap.size rfl T5.out.a HU.out ?_)
  refine (BY2.out w5).mono ?_
  rintro e w6 ⟨v6, rfl, ho, hb⟩
  obtain ⟨A6, c6, rfl, hc6, _⟩ := own_shape ho
  have P6 := hide ho
  have O6 := hide (own_over O5.out hb)
  have T6 := hide (T5.out.over hb)
  have K6 := hide (K5.out.over hb)
  have X6 := hide (X5.out.over hb)
  have s6 := hb.size
  clear ho hb O5 T5 K5 X5
  go_wp2_with fail
  refine (TK2.out w6 0 w.heap.size A n c T6.out.b T6.out.bl.size hn (by omega)).mono ?_
  rintro e w7 ⟨rfl, hb⟩
  have P7 := hide (own_over P6.out hb)
  have O7 := hide (own_over O6.out hb)
  have T7 := hide (T6.out.over hb)
  have K7 := hide (K6.out.over hb)
  have X7 := hide (X6.out.over hb)
  have NEW := hide (Blk.new w7 30 #[.int .u8 0, .int .u8 0, .int .u8 0, .int .u8 0, .int .u8 0, .int .u8 0, .int .u8 0, .int .u8 0, .int .i64 0, .int .u8 0, .int .u8 0, .int .u8 0, .int .u8 0, .int .u8 0, .int .u8 0, .int .u8 0, .int .u8 0, .int .u8 0, .int .u8 0, .int .u8 0, .int .u8 0, .int .u8 0, .int .u8 0, .int .u8 0, .int .u8 0, .int .i64 0, .int .i64 0])
  have s7 := hb.size
  clear hb O6 T6 K6 P6 X6
  go_wp2_with (refine wpList_store_uro rfl (.tmp 16) (.tmp 50) rfl w7.heap.size rfl (u := R) rfl HR.out NEW.out rfl ?_; intro w8 hb8 hg8; have Y8 := hide hb8; have W8 : Hid (Below w7.heap.size w7 w8) := hide (((Below.refl _ _).alloc (Nat.le_refl _) _).grown hg8 (by simp) (by simp)); clear hb8 hg8; refine Hid.out ?_)
  refine hide ?_
  clear NEW
  have P8 := hide (own_over P7.out W8.out)
  have O8 := hide (own_over O7.out W8.out)
  have T8 := hide (T7.out.over W8.out)
  have K8 := hide (K7.out.over W8.out)
  have X8 := hide (X7.out.over W8.out)
  have s8 := Y8.out.lt
  clear O7 T7 K7 P7 X7 W8
  go_wp2_with fail
  refine (kept_any _ g 0 w.heap.size A n c bs K8.out T8.out.b (by omega)).mono ?_
  rintro e w8' ⟨rfl, rfl⟩
  have tX := (At.own O8.out).text (P := Tryd.prog) 31 5 Tryd.underlying31 Tryd.underlying5 c3 9 Tryd.underlying9
  have tY := (At.own P8.out).text (P := Tryd.prog) 31 5 Tryd.underlying31 Tryd.underlying5 c6 9 Tryd.underlying9
  obtain ⟨g4, hg4⟩ : ∃ g4, w4.heap.size = g4 := ⟨_, rfl⟩
  obtain ⟨g7, hg7⟩ : ∃ g7, w7.heap.size = g7 := ⟨_, rfl⟩
  rw [hg4] at X8 s4 s5
  rw [hg7] at Y8 s7 s8
  rw [hg4, hg7]
  clear hg4 hg7
  go_wp2_with fail
  clear tX tY
  have hrow : ∀ q, q < 2 → (#[.slice A3 O.length c3, .slice (some ⟨g, 0, none⟩) n (n + 1)] : Array Value)[q]? = some (if q = 0 then .slice A3 O.length c3 else .slice (some ⟨g, 0, none⟩) n (n + 1)) := by
    intro q hq
    match q, hq with
    | 0, _ => rfl
    | 1, _ => rfl
  have hOW : ∀ q, q < 2 → OwnRow (w8.alloc (.cells #[.slice A3 O.length c3, .slice (some ⟨g, 0, none⟩) n (n + 1)] 31)) g (if q = 0 then .slice A3 O.length c3 else .slice (some ⟨g, 0, none⟩) n (n + 1)) := by
    intro q hq
    match q, hq with
    | 0, _ => exact ((uc_row O8.out).more (by omega)).alloc _
    | 1, _ =>
      refine OwnRow.alloc (.inr ⟨g, n, n + 1, _, rfl, Nat.le_refl _, K8.out, ?_, by omega, by unfold maxLen; omega⟩) _
      simp [bvs, HL.out]
  have hDI : ∀ p q, p < 2 → q < 2 → p ≠ q → ((fun q => if q = 0 then Value.slice A3 O.length c3 else .slice (some ⟨g, 0, none⟩) n (n + 1)) p).ownBlock = none ∨
      ((fun q => if q = 0 then Value.slice A3 O.length c3 else .slice (some ⟨g, 0, none⟩) n (n + 1)) p).ownBlock ≠ ((fun q => if q = 0 then Value.slice A3 O.length c3 else .slice (some ⟨g, 0, none⟩) n (n + 1)) q).ownBlock := by
    have hne : ∀ a, (Value.slice A3 O.length c3).ownBlock = some a → g < a := fun a ha => by have := (O8.out.lt a ha).1; omega
    intro p q hp hq hpq
    match p, q, hp, hq with
    | 0, 0, _, _ => exact absurd rfl hpq
    | 1, 1, _, _ => exact absurd rfl hpq
    | 0, 1, _, _ => exact .inr (fun e => by have := hne g e; omega)
    | 1, 0, _, _ => exact .inr (fun e => by have := hne g e.symm; omega)
  have hfree : ∀ b, (b < g ∨ (g < b ∧ ∀ a, (Value.slice A3 O.length c3).ownBlock = some a → a ≠ b)) → ∀ q, q < 2 → ((fun q => if q = 0 then Value.slice A3 O.length c3 else .slice (some ⟨g, 0, none⟩) n (n + 1)) q).ownBlock ≠ some b := by
    intro b hb q hq
    match q, hq with
    | 0, _ =>
      intro e
      have h1 := (O8.out.lt b e).1
      rcases hb with hb | ⟨_, hb⟩
      · omega
      · exact hb b e rfl
    | 1, _ => exact fun e => absurd (show g = b by simpa [Value.ownBlock] using e) (by omega)
  have hbnd : ∀ a, (Value.slice A3 O.length c3).ownBlock = some a → a < g4 := fun a ha => by
    have h1 := (B3.out a ha)
    omega
  have hg8 : g ≤ w8.heap.size := by omega
  refine (owned_all _ g w8.heap.size 2 2 (fun q => if q = 0 then .slice A3 O.length c3 else .slice (some ⟨g, 0, none⟩) n (n + 1)) _ (by omega) (by omega) (by omega) hrow (Blk.new w8 31 _) (by simp; omega) hOW hDI).mono ?_
  rintro e w9 ⟨rfl, hb9, hrest⟩
  have K : ∀ b t cs, (b < g ∨ g4 ≤ b) → Blk w8 b t cs → Blk w9 b t cs := fun b t cs h1 h2 => by
    have h3 := h2.alloc (.cells #[.slice A3 O.length c3, .slice (some ⟨g, 0, none⟩) n (n + 1)] 31)
    refine (hrest b h3.lt (hfree b ?_)).trans h3
    rcases h1 with h1 | h1
    · exact .inl h1
    · exact .inr ⟨by omega, fun a ha e => by have := hbnd a ha; omega⟩
  have X9 := hide (K g4 _ _ (.inr (Nat.le_refl _)) X8.out)
  have Y9 := hide (K g7 _ _ (.inr (by omega)) Y8.out)
  have U9 := hide (K _ _ _ (.inl s1) T8.out.a)
  have B9 := hide ((T8.out.bl.alloc (by omega) _).trans (hb9.mono (by omega)))
  clear hrow hOW hDI hfree hbnd hrest hb9 K K8 X8 Y8 T8 O8 P8
  go_wp2_with fail
  refine wp_region_held_drew (S := fun x => Blk x g4 30 (uroC R) ∧ Blk x g7 30 (uroC R) ∧ Blk x w.heap.size 30 (uroC u) ∧ Below w.heap.size w x) (by kernel_rfl) ⟨X9.out.drew, Y9.out.drew, U9.out.drew, below_drew B9.out⟩ (fun hHeld => ?_)
  refine region_take (i := 0) (v := ?_) rfl (by kernel_rfl) (by kernel_rfl) (by kernel_rfl) (fun _ _ _ h => h) (Or.inl ⟨by rfl, ?_⟩) (by assumption) ?_
  rotate_left
  · (intro w' hSw; (try dsimp only at hSw); go_simp <;> with_reducible rfl)
  simp only [Act.put, List.setIfInBounds_toArray, List.set_cons_zero, List.set_cons_succ]
  refine region_take (i := 1) (v := ?_) rfl (by kernel_rfl) (by kernel_rfl) (by kernel_rfl) (fun _ _ _ h => h) (Or.inl ⟨by rfl, ?_⟩) (by assumption) ?_
  rotate_left
  · (intro w' hSw; (try dsimp only at hSw); go_simp <;> with_reducible rfl)
  simp only [Act.put, List.setIfInBounds_toArray, List.set_cons_zero, List.set_cons_succ]
  refine region_take (i := 2) (v := ?_) rfl (by kernel_rfl) (by kernel_rfl) (by kernel_rfl) (fun _ _ _ h => h) (Or.inl ⟨by rfl, ?_⟩) (by assumption) ?_
  rotate_left
  · (intro w' hSw; (try dsimp only at hSw); go_simp <;> with_reducible rfl)
  simp only [Act.put, List.setIfInBounds_toArray, List.set_cons_zero, List.set_cons_succ]
  refine region_take (i := 3) (v := ?_) rfl (by kernel_rfl) (by kernel_rfl) (by kernel_rfl) (fun _ _ _ h => h) (Or.inl ⟨by rfl, ?_⟩) (by assumption) ?_
  rotate_left
  · (intro w' hSw; (try dsimp only at hSw); go_simp <;> with_reducible rfl)
  simp only [Act.put, List.setIfInBounds_toArray, List.set_cons_zero, List.set_cons_succ]
  refine region_take (i := 4) (v := ?_) rfl (by kernel_rfl) (by kernel_rfl) (by kernel_rfl) (fun _ _ _ h => h) (Or.inl ⟨by rfl, ?_⟩) (by assumption) ?_
  rotate_left
  · (intro w' hSw; (try dsimp only at hSw); go_simp <;> with_reducible rfl)
  simp only [Act.put, List.setIfInBounds_toArray, List.set_cons_zero, List.set_cons_succ]
  refine region_take (i := 5) (v := ?_) rfl (by kernel_rfl) (by kernel_rfl) (by kernel_rfl) (fun _ _ _ h => h) (Or.inl ⟨by rfl, ?_⟩) (by assumption) ?_
  rotate_left
  · (intro w' hSw; (try dsimp only at hSw); go_simp <;> with_reducible rfl)
  simp only [Act.put, List.setIfInBounds_toArray, List.set_cons_zero, List.set_cons_succ]
  refine region_take (i := 6) (v := ?_) rfl (by kernel_rfl) (by kernel_rfl) (by kernel_rfl) (fun _ _ _ h => h) (Or.inl ⟨by rfl, ?_⟩) (by assumption) ?_
  rotate_left
  · (intro w' hSw; (try dsimp only at hSw); go_simp <;> with_reducible rfl)
  simp only [Act.put, List.setIfInBounds_toArray, List.set_cons_zero, List.set_cons_succ]
  refine region_take (i := 7) (v := ?_) rfl (by kernel_rfl) (by kernel_rfl) (by kernel_rfl) (fun _ _ _ h => h) (Or.inl ⟨by rfl, ?_⟩) (by assumption) ?_
  rotate_left
  · (intro w' hSw; (try dsimp only at hSw); go_simp <;> with_reducible rfl)
  simp only [Act.put, List.setIfInBounds_toArray, List.set_cons_zero, List.set_cons_succ]
  refine region_take (i := 8) (v := ?_) rfl (by kernel_rfl) (by kernel_rfl) (by kernel_rfl) (fun _ _ _ h => h) (Or.inl ⟨by rfl, ?_⟩) (by assumption) ?_
  rotate_left
  · (intro w' hSw; (try dsimp only at hSw); go_simp <;> with_reducible rfl)
  simp only [Act.put, List.setIfInBounds_toArray, List.set_cons_zero, List.set_cons_succ]
  refine region_take (i := 9) (v := ?_) rfl (by kernel_rfl) (by kernel_rfl) (by kernel_rfl) (fun _ _ _ h => h) (Or.inl ⟨by rfl, ?_⟩) (by assumption) ?_
  rotate_left
  · (intro w' hSw; (try dsimp only at hSw); go_simp <;> with_reducible rfl)
  simp only [Act.put, List.setIfInBounds_toArray, List.set_cons_zero, List.set_cons_succ]
  refine region_take (i := 10) (v := ?_) rfl (by kernel_rfl) (by kernel_rfl) (by kernel_rfl) (fun _ _ _ h => h) (Or.inl ⟨by rfl, ?_⟩) (by assumption) ?_
  rotate_left
  · (intro w' hSw; (try dsimp only at hSw); go_simp <;> with_reducible rfl)
  simp only [Act.put, List.setIfInBounds_toArray, List.set_cons_zero, List.set_cons_succ]
  refine region_take (i := 11) (v := ?_) rfl (by kernel_rfl) (by kernel_rfl) (by kernel_rfl) (fun _ _ _ h => h) (Or.inl ⟨by rfl, ?_⟩) (by assumption) ?_
  rotate_left
  · (intro w' hSw; (try dsimp only at hSw); go_simp <;> with_reducible rfl)
  simp only [Act.put, List.setIfInBounds_toArray, List.set_cons_zero, List.set_cons_succ]
  refine region_take (i := 12) (v := ?_) rfl (by kernel_rfl) (by kernel_rfl) (by kernel_rfl) (fun _ _ _ h => h) (Or.inl ⟨by rfl, ?_⟩) (by assumption) ?_
  rotate_left
  · (intro w' hSw; (try dsimp only at hSw); go_simp <;> with_reducible rfl)
  simp only [Act.put, List.setIfInBounds_toArray, List.set_cons_zero, List.set_cons_succ]
  refine region_take (i := 13) (v := ?_) rfl (by kernel_rfl) (by kernel_rfl) (by kernel_rfl) (fun _ _ _ h => h) (Or.inl ⟨by rfl, ?_⟩) (by assumption) ?_
  rotate_left
  · (intro w' hSw; (try dsimp only at hSw); go_simp <;> with_reducible rfl)
  simp only [Act.put, List.setIfInBounds_toArray, List.set_cons_zero, List.set_cons_succ]
  refine region_take (i := 14) (v := ?_) rfl (by kernel_rfl) (by kernel_rfl) (by kernel_rfl) (fun _ _ _ h => h) (Or.inl ⟨by rfl, ?_⟩) (by assumption) ?_
  rotate_left
  · (intro w' hSw; (try dsimp only at hSw); go_simp <;> with_reducible rfl)
  simp only [Act.put, List.setIfInBounds_toArray, List.set_cons_zero, List.set_cons_succ]
  refine region_take (i := 15) (v := ?_) rfl (by kernel_rfl) (by kernel_rfl) (by kernel_rfl) (fun _ _ _ h => h) (Or.inl ⟨by rfl, ?_⟩) (by assumption) ?_
  rotate_left
  · (intro w' hSw; (try dsimp only at hSw); go_simp <;> with_reducible rfl)
  simp only [Act.put, List.setIfInBounds_toArray, List.set_cons_zero, List.set_cons_succ]
  refine region_take (i := 16) (v := (.agg (uroC R))) rfl (by kernel_rfl) (by kernel_rfl) (by kernel_rfl) (fun _ _ _ h => h) (Or.inl ⟨by rfl, ?_⟩) (by assumption) ?_
  · (intro w' hSw; exact exec_load_uro (.tmp 11) rfl g4 rfl hSw.1 HR.out)
  simp only [Act.put, List.setIfInBounds_toArray, List.set_cons_zero, List.set_cons_succ]
  refine region_take (i := 17) (v := (.agg (uroC R))) rfl (by kernel_rfl) (by kernel_rfl) (by kernel_rfl) (fun _ _ _ h => h) (Or.inl ⟨by rfl, ?_⟩) (by assumption) ?_
  · (intro w' hSw; exact exec_load_uro (.tmp 16) rfl g7 rfl hSw.2.1 HR.out)
  simp only [Act.put, List.setIfInBounds_toArray, List.set_cons_zero, List.set_cons_succ]
  refine region_take (i := 18) (v := (.bool true)) rfl (by kernel_rfl) (by kernel_rfl) (by kernel_rfl) (fun _ _ _ h => h) (Or.inl ⟨by rfl, ?_⟩) (by assumption) ?_
  · (intro w' hSw; exact (exec_eql_uro (.tmp 81) (.tmp 82) rfl rfl rfl HR.out HR.out).trans (by rw [(eqU_iff R R).2 rfl]))
  simp only [Act.put, List.setIfInBounds_toArray, List.set_cons_zero, List.set_cons_succ]
  refine region_take (i := 19) (v := ?_) rfl (by kernel_rfl) (by kernel_rfl) (by kernel_rfl) (fun _ _ _ h => h) (Or.inl ⟨by rfl, ?_⟩) (by assumption) ?_
  rotate_left
  · (intro w' hSw; (try dsimp only at hSw); go_simp <;> with_reducible rfl)
  simp only [Act.put, List.setIfInBounds_toArray, List.set_cons_zero, List.set_cons_succ]
  refine region_take (i := 20) (v := ?_) rfl (by kernel_rfl) (by kernel_rfl) (by kernel_rfl) (fun _ _ _ h => h) (Or.inl ⟨by rfl, ?_⟩) (by assumption) ?_
  rotate_left
  · (intro w' hSw; (try dsimp only at hSw); go_simp <;> with_reducible rfl)
  simp only [Act.put, List.setIfInBounds_toArray, List.set_cons_zero, List.set_cons_succ]
  refine region_take (i := 21) (v := ?_) rfl (by kernel_rfl) (by kernel_rfl) (by kernel_rfl) (fun _ _ _ h => h) (Or.inl ⟨by rfl, ?_⟩) (by assumption) ?_
  rotate_left
  · (intro w' hSw; (try dsimp only at hSw); go_simp <;> with_reducible rfl)
  simp only [Act.put, List.setIfInBounds_toArray, List.set_cons_zero, List.set_cons_succ]
  refine region_take (i := 22) (v := ?_) rfl (by kernel_rfl) (by kernel_rfl) (by kernel_rfl) (fun _ _ _ h => h) (Or.inl ⟨by rfl, ?_⟩) (by assumption) ?_
  rotate_left
  · (intro w' hSw; (try dsimp only at hSw); go_simp <;> with_reducible rfl)
  simp only [Act.put, List.setIfInBounds_toArray, List.set_cons_zero, List.set_cons_succ]
  refine region_take (i := 23) (v := ?_) rfl (by kernel_rfl) (by kernel_rfl) (by kernel_rfl) (fun _ _ _ h => h) (Or.inl ⟨by rfl, ?_⟩) (by assumption) ?_
  rotate_left
  · (intro w' hSw; (try dsimp only at hSw); go_simp <;> with_reducible rfl)
  simp only [Act.put, List.setIfInBounds_toArray, List.set_cons_zero, List.set_cons_succ]
  refine region_take (i := 24) (v := ?_) rfl (by kernel_rfl) (by kernel_rfl) (by kernel_rfl) (fun _ _ _ h => h) (Or.inl ⟨by rfl, ?_⟩) (by assumption) ?_
  rotate_left
  · (intro w' hSw; (try dsimp only at hSw); go_simp <;> with_reducible rfl)
  simp only [Act.put, List.setIfInBounds_toArray, List.set_cons_zero, List.set_cons_succ]
  refine region_take (i := 25) (v := ?_) rfl (by kernel_rfl) (by kernel_rfl) (by kernel_rfl) (fun _ _ _ h => h) (Or.inl ⟨by rfl, ?_⟩) (by assumption) ?_
  rotate_left
  · (intro w' hSw; (try dsimp only at hSw); go_simp <;> with_reducible rfl)
  simp only [Act.put, List.setIfInBounds_toArray, List.set_cons_zero, List.set_cons_succ]
  refine region_take (i := 26) (v := ?_) rfl (by kernel_rfl) (by kernel_rfl) (by kernel_rfl) (fun _ _ _ h => h) (Or.inl ⟨by rfl, ?_⟩) (by assumption) ?_
  rotate_left
  · (intro w' hSw; (try dsimp only at hSw); go_simp <;> with_reducible rfl)
  simp only [Act.put, List.setIfInBounds_toArray, List.set_cons_zero, List.set_cons_succ]
  refine region_take (i := 27) (v := ?_) rfl (by kernel_rfl) (by kernel_rfl) (by kernel_rfl) (fun _ _ _ h => h) (Or.inl ⟨by rfl, ?_⟩) (by assumption) ?_
  rotate_left
  · (intro w' hSw; (try dsimp only at hSw); go_simp <;> with_reducible rfl)
  simp only [Act.put, List.setIfInBounds_toArray, List.set_cons_zero, List.set_cons_succ]
  refine region_take (i := 28) (v := ?_) rfl (by kernel_rfl) (by kernel_rfl) (by kernel_rfl) (fun _ _ _ h => h) (Or.inl ⟨by rfl, ?_⟩) (by assumption) ?_
  rotate_left
  · (intro w' hSw; (try dsimp only at hSw); go_simp <;> with_reducible rfl)
  simp only [Act.put, List.setIfInBounds_toArray, List.set_cons_zero, List.set_cons_succ]
  refine region_take (i := 29) (v := ?_) rfl (by kernel_rfl) (by kernel_rfl) (by kernel_rfl) (fun _ _ _ h => h) (Or.inl ⟨by rfl, ?_⟩) (by assumption) ?_
  rotate_left
  · (intro w' hSw; (try dsimp only at hSw); go_simp <;> with_reducible rfl)
  simp only [Act.put, List.setIfInBounds_toArray, List.set_cons_zero, List.set_cons_succ]
  refine region_take (i := 30) (v := ?_) rfl (by kernel_rfl) (by kernel_rfl) (by kernel_rfl) (fun _ _ _ h => h) (Or.inl ⟨by rfl, ?_⟩) (by assumption) ?_
  rotate_left
  · (intro w' hSw; (try dsimp only at hSw); go_simp <;> with_reducible rfl)
  simp only [Act.put, List.setIfInBounds_toArray, List.set_cons_zero, List.set_cons_succ]
  refine region_take (i := 31) (v := (.agg (uroC u))) rfl (by kernel_rfl) (by kernel_rfl) (by kernel_rfl) (fun _ _ _ h => h) (Or.inl ⟨by rfl, ?_⟩) (by assumption) ?_
  · (intro w' hSw; exact exec_load_uro (.tmp 3) rfl w.heap.size rfl hSw.2.2.1 HU.out)
  simp only [Act.put, List.setIfInBounds_toArray, List.set_cons_zero, List.set_cons_succ]
  refine region_take (i := 33) (v := (.agg (uroC u))) rfl (by kernel_rfl) (by kernel_rfl) (by kernel_rfl) (fun _ _ _ h => h) (Or.inl ⟨by rfl, ?_⟩) (by assumption) ?_
  · (intro w' hSw; exact exec_load_uro (.tmp 3) rfl w.heap.size rfl hSw.2.2.1 HU.out)
  simp only [Act.put, List.setIfInBounds_toArray, List.set_cons_zero, List.set_cons_succ]
  refine region_call (i := 32) rfl (by kernel_rfl) (by rfl) (uright_any _ u HU.out) (fun w => by kernel_rfl) ?_
  rw [RA.out]; rintro e x1 ⟨rfl, hb⟩
  refine ⟨_, rfl, ⟨hHeld.1.over hb, hHeld.2.1.over hb, hHeld.2.2.1.over hb, below_step hHeld.2.2.2 hb (Nat.le_refl _)⟩, fun hHeld => ?_⟩
  simp only [Act.put, List.setIfInBounds_toArray, List.set_cons_zero, List.set_cons_succ]
  refine region_call (i := 34) rfl (by kernel_rfl) (by rfl) (refuright_any _ u HU.out) (fun w => by kernel_rfl) ?_
  rw [RA.out]; rintro e x2 ⟨rfl, hb⟩
  refine ⟨_, rfl, ⟨hHeld.1.over hb, hHeld.2.1.over hb, hHeld.2.2.1.over hb, below_step hHeld.2.2.2 hb (Nat.le_refl _)⟩, fun hHeld => ?_⟩
  simp only [Act.put, List.setIfInBounds_toArray, List.set_cons_zero, List.set_cons_succ]
  refine region_take (i := 35) (v := ?_) rfl (by kernel_rfl) (by kernel_rfl) (by kernel_rfl) (fun _ _ _ h => h) (Or.inl ⟨by rfl, ?_⟩) (by assumption) ?_
  rotate_left
  · (intro w' hSw; (try dsimp only at hSw); go_simp <;> with_reducible rfl)
  simp only [Act.put, List.setIfInBounds_toArray, List.set_cons_zero, List.set_cons_succ]
  refine region_take (i := 36) (v := ?_) rfl (by kernel_rfl) (by kernel_rfl) (by kernel_rfl) (fun _ _ _ h => h) (Or.inl ⟨by rfl, ?_⟩) (by assumption) ?_
  rotate_left
  · (intro w' hSw; (try dsimp only at hSw); go_simp <;> with_reducible rfl)
  simp only [Act.put, List.setIfInBounds_toArray, List.set_cons_zero, List.set_cons_succ]
  refine region_take (i := 37) (v := ?_) rfl (by kernel_rfl) (by kernel_rfl) (by kernel_rfl) (fun _ _ _ h => h) (Or.inl ⟨by rfl, ?_⟩) (by assumption) ?_
  rotate_left
  · (intro w' hSw; (try dsimp only at hSw); go_simp <;> with_reducible rfl)
  simp only [Act.put, List.setIfInBounds_toArray, List.set_cons_zero, List.set_cons_succ]
  refine wpAnyH_done (by kernel_rfl) ?_ _
  go_wp2
  go_ret
  exact ⟨by rfl, hHeld.2.2.2⟩
end Go.Proofs.YtdkoicfenehjcaaDoor
