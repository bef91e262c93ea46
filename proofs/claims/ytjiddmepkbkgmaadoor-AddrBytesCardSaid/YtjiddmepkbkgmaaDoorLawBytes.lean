/-
  AddrBytes returns true, whatever address and whatever bytes come in. The one condition: the library's tables hold what its text lays.
-/
import Derived.Test.YtjiddmepkbkgmaaDoorRef4
import Derived.Test.YtjiddmepkbkgmaaDoorRef5
import Derived.Test.YtjiddmepkbkgmaaDoorRefs
namespace Go.Proofs.YtjiddmepkbkgmaaDoor
open Go.RowKit
set_option linter.unusedVariables false
set_option linter.unusedSimpArgs false

theorem OwnRow.of_own {w : World} {base : Nat} {v : Value} {n : Nat} {xs : List Value} (h : w.ownsRow base 5 1 v n xs) : OwnRow w base v := by
  rcases h.2 with ⟨h, _⟩ | ⟨g, cap, cur, h1, h2, h3, h4, h5, h6, _⟩
  · exact .inl h
  · exact .inr ⟨g, n, cap, cur, h1, h2, h3, by omega, h4, h5⟩
theorem at_lent {w : World} {g n : Nat} {t : TypeId} {bs : List UInt8} {l : List Value} (hb : Blk w g t (bvs bs ++ l).toArray) (hl : bs.length = n) : At w g (g + 1) (some ⟨g, 0, none⟩) n bs :=
  ⟨hl, fun _ => ⟨g, 0, rfl, Nat.le_refl _, by omega, fun j u hu => by
    have hj : j < bs.length := (List.getElem?_eq_some_iff.1 hu).1
    rw [Nat.zero_add, hb.cell j]
    simp [bvs, List.getElem?_append, hj]
    rw [(List.getElem?_eq_some_iff.1 hu).2]⟩⟩
theorem exec_conv {o : Oper} {a : Act} {w : World} {src dst : TypeId} {x : Operand} {v r : Value} (ho : o.op = .convert src dst x) (hx : a.eval x = v) (h : (convert src dst v).run Tryd.prog w = .ok r w) : (execOp a.eval o).run Tryd.prog w = .ok (.value r) w := by
  unfold execOp
  simp only [ho, hx, Sem.run_bind, h, Result.andThen_ok, Sem.run_pure]
theorem exec_eql_addr {o : Oper} {a : Act} {w : World} (x y : Operand) (ho : o.op = .binOp .eql 24 x y 24)
    {s : Int} {xs : List UInt8} (hx : a.eval x = .agg (addrC s xs)) (hy : a.eval y = .agg (addrC s xs)) (lx : xs.length = 16) :
    (execOp a.eval o).run Tryd.prog w = .ok (.value (.bool true)) w := by
  have hg : Tryd.prog.eqGuardType Tryd.prog.depth 24 = false := by kernel_rfl
  have hg' := run_eqGuard_agg (P := Tryd.prog) w .eql 24 x y (addrC s xs) (addrC s xs) hg
  unfold execOp
  simp only [ho, hx, hy, Sem.run_bind, hg', Result.andThen_ok, eql_addr s s xs xs lx lx, Sem.run_pure]
  simp

/-- what stands while the call goes on: the boxed address, what was lent, what Bytes gave -/
def Lay (w x : World) (s : Int) (bs : List UInt8) (g : Nat) (xs : List UInt8) (A3 : Option Addr) (c3 : Nat) (Z : List UInt8) : Prop :=
  Blk x w.heap.size 24 (addrC s bs) ∧ Below w.heap.size w x ∧ Blk x g 5 (bvs xs ++ [bv 77]).toArray ∧ x.ownsRow (g + 1) 5 1 (.slice A3 Z.length c3) Z.length (bvs Z)
section
variable {w x y : World} {s : Int} {bs xs Z : List UInt8} {g c3 : Nat} {A3 : Option Addr}
theorem own_on {x y : World} {B n c : Nat} {A : Option Addr} {l : List Value} (h : x.ownsRow B 5 1 (.slice A n c) n l) (hb : Below x.heap.size x y) : y.ownsRow B 5 1 (.slice A n c) n l :=
  h.kept (grown_of_below hb none) (by rcases A with _ | a; exact .inl rfl; exact .inr (by simp [Value.ownBlock]))
theorem own_new {x y : World} {B n c : Nat} {A : Option Addr} {l : List Value} (h : x.ownsRow B 5 1 (.slice A n c) n l) (o : Obj) (hg : (x.alloc o).grownBy y (some x.heap.size)) : y.ownsRow B 5 1 (.slice A n c) n l :=
  (h.alloc o).kept hg (by
    rcases A with _ | a
    · exact .inl rfl
    · refine .inr (fun e => ?_)
      have := (h.lt _ e).2
      omega)
theorem Lay.on (k : Lay w x s bs g xs A3 c3 Z) (hb : Below x.heap.size x y) : Lay w y s bs g xs A3 c3 Z :=
  ⟨k.1.on hb, below_step k.2.1 hb (Nat.le_refl _), k.2.2.1.on hb, own_on k.2.2.2 hb⟩
theorem Lay.kept (k : Lay w x s bs g xs A3 c3 Z) (o : Obj) (hg : (x.alloc o).grownBy y (some x.heap.size)) : Lay w y s bs g xs A3 c3 Z :=
  ⟨k.1.kept _ hg (Nat.le_refl _), below_new k.2.1 (Nat.le_refl _) _ hg (Nat.le_refl _), k.2.2.1.kept _ hg (Nat.le_refl _), own_new k.2.2.2 o hg⟩
theorem Lay.a (k : Lay w x s bs g xs A3 c3 Z) : Blk x w.heap.size 24 (addrC s bs) := k.1
theorem Lay.bel (k : Lay w x s bs g xs A3 c3 Z) : Below w.heap.size w x := k.2.1
theorem Lay.lent (k : Lay w x s bs g xs A3 c3 Z) : Blk x g 5 (bvs xs ++ [bv 77]).toArray := k.2.2.1
theorem Lay.own (k : Lay w x s bs g xs A3 c3 Z) : x.ownsRow (g + 1) 5 1 (.slice A3 Z.length c3) Z.length (bvs Z) := k.2.2.2
end
/-- and the two addresses that were made -/
def LayTwo (w x : World) (s : Int) (bs : List UInt8) (g : Nat) (xs : List UInt8) (A3 : Option Addr) (c3 : Nat) (Z : List UInt8) (p q : Nat) (z : Int) (ys : List UInt8) : Prop :=
  Lay w x s bs g xs A3 c3 Z ∧ Blk x p 24 (addrC z ys) ∧ Blk x q 24 (addrC z ys)
section
variable {w x y : World} {s z : Int} {bs xs Z ys : List UInt8} {g c3 p q : Nat} {A3 : Option Addr}
theorem LayTwo.on (k : LayTwo w x s bs g xs A3 c3 Z p q z ys) (hb : Below x.heap.size x y) : LayTwo w y s bs g xs A3 c3 Z p q z ys := ⟨k.1.on hb, k.2.1.on hb, k.2.2.on hb⟩
theorem LayTwo.drew (k : LayTwo w x s bs g xs A3 c3 Z p q z ys) : LayTwo w x.drew s bs g xs A3 c3 Z p q z ys := ⟨⟨k.1.1.drew, below_drew k.1.2.1, k.1.2.2.1.drew, k.1.2.2.2⟩, k.2.1.drew, k.2.2.drew⟩
theorem LayTwo.own (k : LayTwo w x s bs g xs A3 c3 Z p q z ys) : x.ownsRow (g + 1) 5 1 (.slice A3 Z.length c3) Z.length (bvs Z) := k.1.own
theorem LayTwo.a (k : LayTwo w x s bs g xs A3 c3 Z p q z ys) : Blk x w.heap.size 24 (addrC s bs) := k.1.a
end
/-- the boxed addresses alone, behind Owned -/
def Three3 (w x : World) (s : Int) (bs : List UInt8) (p q : Nat) (z : Int) (ys : List UInt8) : Prop :=
  Blk x w.heap.size 24 (addrC s bs) ∧ Blk x p 24 (addrC z ys) ∧ Blk x q 24 (addrC z ys) ∧ Below w.heap.size w x
section
variable {w x y : World} {s z : Int} {bs ys : List UInt8} {p q : Nat}
theorem Three3.a (k : Three3 w x s bs p q z ys) : Blk x w.heap.size 24 (addrC s bs) := k.1
theorem Three3.b (k : Three3 w x s bs p q z ys) : Blk x p 24 (addrC z ys) := k.2.1
theorem Three3.c (k : Three3 w x s bs p q z ys) : Blk x q 24 (addrC z ys) := k.2.2.1
theorem Three3.bel (k : Three3 w x s bs p q z ys) : Below w.heap.size w x := k.2.2.2
theorem Three3.on (k : Three3 w x s bs p q z ys) (hb : Below x.heap.size x y) : Three3 w y s bs p q z ys := ⟨k.1.on hb, k.2.1.on hb, k.2.2.1.on hb, below_step k.2.2.2 hb (Nat.le_refl _)⟩
theorem Three3.drew (k : Three3 w x s bs p q z ys) : Three3 w x.drew s bs p q z ys := ⟨k.1.drew, k.2.1.drew, k.2.2.1.drew, below_drew k.2.2.2⟩
end

set_option maxRecDepth 20000 in
set_option maxHeartbeats 8000000 in
theorem bytes_core (w : World) (hg : Glob w) (s : Int) (bs : List UInt8) (LB : Hid (bs.length = 16)) (A : Option Addr) (n c : Nat) (xs : List UInt8) (hA : At w 0 w.heap.size A n xs) (_hn : n ≤ c) (_hc : c ≤ 140737488351232)
    (Z : List UInt8) (HZ : Hid (bytesA s bs = Z)) (LZ : Hid (Z.length ≤ 16)) (z : Int) (ys : List UInt8) (E : Int) (HO : Hid (ofS xs = z ∧ ofB xs = ys ∧ ofE xs = E)) (LY : Hid (ys.length = 16)) (r : Bool) (HR : Hid (rightA s bs = r)) :
    Calls Tryd.prog 3 #[.agg (addrC s bs), .slice A n c] w fun e w' => e = .returned (.bool true) ∧ Below w.heap.size w w' := by
  have HG := hide hg
  have HL := hide hA.len
  have HA := hide hA
  have S0 := hide (Boxed.new w s bs)
  clear hg hA
  cases r
  all_goals
    go_enter Tryd.func3, Tryd.ntmps3
    go_wp2_with fail
    refine (small_any _ (HG.out.below S0.out.bel)).mono ?_
    rintro e w1 ⟨rfl, hb1⟩
    have S1 := hide (S0.out.on hb1)
    clear hb1
    go_wp2_with fail
    refine (lent_any w1 0 w.heap.size A n c xs (HA.out.below S1.out.bel) S1.out.bel.size (by omega)).mono ?_
    rintro e w2 ⟨rfl, hblk, hb2⟩
    obtain ⟨g, hgg⟩ : ∃ g, w1.heap.size = g := ⟨_, rfl⟩
    have hwg : w.heap.size < g := by have := S1.out.blk.lt; omega
    have S2 := hide (S1.out.on hb2)
    rw [hgg] at hblk ⊢
    have K2 := hide hblk
    have hg2 := hblk.lt
    clear hblk hb2 hgg
    go_wp2_with (with_reducible refine wpList_load_addr rfl (.tmp 2) rfl w.heap.size rfl S2.out.blk LB.out ?_)
    refine (bytes_any w2 s bs LB.out).mono ?_
    rintro e w3 ⟨v3, rfl, hown3, hb3⟩
    rw [HZ.out] at hown3
    obtain ⟨A3, c3, rfl, _, _⟩ := own_shape hown3
    have L3 : Hid (Lay w w3 s bs g xs A3 c3 Z) := ⟨S2.out.blk.on hb3, below_step S2.out.bel hb3 (Nat.le_refl _), K2.out.on hb3, own_more hown3 (by omega)⟩
    clear hown3 hb3
    go_wp2_with fail
    refine (of_any w3 _ _ _ n (n + 1) xs (at_lent L3.out.lent HL.out) L3.out.lent.lt).mono ?_
    rintro e w4 ⟨rfl, hb4⟩
    rw [HO.out.1, HO.out.2.1, HO.out.2.2]
    have L4 := hide (L3.out.on hb4)
    clear hb4
    go_wp2_with (refine wpList_store_addr rfl (.tmp 8) (.tmp 23) rfl w4.heap.size rfl rfl LY.out (Blk.new w4 _ _) rfl ?_; intro w5 hb5 hg5; have P5 := hide hb5; have L5 := hide (L4.out.kept _ hg5); clear hb5 hg5)
    refine (refaof_any w5 0 w.heap.size A n c xs (HA.out.below L5.out.bel) L5.out.bel.size).mono ?_
    rintro e w6 ⟨rfl, hb6⟩
    rw [HO.out.1, HO.out.2.1, HO.out.2.2]
    have P6 := hide (P5.out.on hb6)
    have L6 := hide (L5.out.on hb6)
    clear hb6
    go_wp2_with (refine wpList_store_addr rfl (.tmp 10) (.tmp 28) rfl w6.heap.size rfl rfl LY.out (Blk.new w6 _ _) rfl ?_; intro w7 hb7 hg7; have T7 : Hid (LayTwo w w7 s bs g xs A3 c3 Z w4.heap.size w6.heap.size z ys) := ⟨L6.out.kept _ hg7, P6.out.kept _ hg7 (Nat.le_refl _), hb7⟩; clear hb7 hg7)
    refine (kept_any w7 g 0 w.heap.size A n c xs T7.out.1.lent (HA.out.below T7.out.1.bel) (by omega)).mono ?_
    rintro e w7' ⟨rfl, rfl⟩
    go_wp2_with fail
    refine wp_region_held_drew (S := fun x => LayTwo w x s bs g xs A3 c3 Z w4.heap.size w6.heap.size z ys) (by kernel_rfl) T7.out.drew (fun hHeld => ?_)
    refine region_take (i := 0) (v := ?_) rfl (by kernel_rfl) (by kernel_rfl) (by kernel_rfl) (fun _ _ _ h => h) (Or.inl ⟨by rfl, ?_⟩) (by assumption) ?_
    rotate_left
    · (intro w' hSw; (try dsimp only at hSw); go_simp <;> with_reducible rfl)
    simp only [Act.put, List.setIfInBounds_toArray, List.set_cons_zero, List.set_cons_succ]
    refine region_take (i := 1) (v := (.string ⟨Z.toArray⟩)) rfl (by kernel_rfl) (by kernel_rfl) (by kernel_rfl) (fun _ _ _ h => h) (Or.inl ⟨by rfl, ?_⟩) (by assumption) ?_
    · (intro w' hSw; exact exec_conv rfl rfl ((At.own hSw.own).text (P := Tryd.prog) 25 5 Tryd.underlying25 Tryd.underlying5 c3 9 Tryd.underlying9))
    simp only [Act.put, List.setIfInBounds_toArray, List.set_cons_zero, List.set_cons_succ]
    refine region_take (i := 2) (v := (.agg (addrC s bs))) rfl (by kernel_rfl) (by kernel_rfl) (by kernel_rfl) (fun _ _ _ h => h) (Or.inl ⟨by rfl, ?_⟩) (by assumption) ?_
    · (intro w' hSw; exact exec_load_addr (.tmp 2) rfl w.heap.size rfl hSw.a LB.out)
    simp only [Act.put, List.setIfInBounds_toArray, List.set_cons_zero, List.set_cons_succ]
    refine region_call (i := 3) rfl (by kernel_rfl) (by rfl) (refabytes_any _ s bs LB.out) (fun w => by kernel_rfl) ?_
    rintro e w8 ⟨v8, rfl, hown8, hb8⟩
    rw [HZ.out] at hown8
    obtain ⟨A8, c8, rfl, _, _⟩ := own_shape hown8
    have tY := hide ((At.own hown8).text (P := Tryd.prog) 25 5 Tryd.underlying25 Tryd.underlying5 c8 9 Tryd.underlying9)
    clear hown8
    refine ⟨_, rfl, hHeld.on hb8, fun hHeld => ?_⟩
    simp only [Act.put, List.setIfInBounds_toArray, List.set_cons_zero, List.set_cons_succ]
    refine region_run (i := 4) (v := .string ⟨Z.toArray⟩) rfl (by kernel_rfl) (by rfl) (exec_conv rfl rfl tY.out) hHeld (fun hHeld => ?_)
    simp only [Act.put, List.setIfInBounds_toArray, List.set_cons_zero, List.set_cons_succ]
    refine region_take (i := 5) (v := ?_) rfl (by kernel_rfl) (by kernel_rfl) (by kernel_rfl) (fun _ _ _ h => h) (Or.inl ⟨by rfl, ?_⟩) (by assumption) ?_
    rotate_left
    · (intro w' hSw; (try dsimp only at hSw); go_simp <;> with_reducible rfl)
    simp only [Act.put, List.setIfInBounds_toArray, List.set_cons_zero, List.set_cons_succ]
    refine region_take (i := 6) (v := ?_) rfl (by kernel_rfl) (by kernel_rfl) (by kernel_rfl) (fun _ _ _ h => h) (Or.inl ⟨by rfl, ?_⟩) (by assumption) ?_
    rotate_left
    · (intro w' hSw; (try dsimp only at hSw); go_simp <;> with_reducible rfl)
    simp only [Act.put, List.setIfInBounds_toArray, List.set_cons_zero, List.set_cons_succ]
    refine wpAnyH_done (by kernel_rfl) ?_ _
    have T9 := hide hHeld
    clear hHeld tY
    have hgl : g < w4.heap.size := L4.out.lent.lt
    have hxl : ∀ b, (Value.slice A3 Z.length c3).ownBlock = some b → g + 1 ≤ b ∧ b < w4.heap.size := fun b hb => L4.out.own.lt b hb
    have hrow : ∀ q, q < 2 → (#[.slice A3 Z.length c3, .slice (some ⟨g, 0, none⟩) n (n + 1)] : Array Value)[q]? = some (if q = 0 then .slice A3 Z.length c3 else .slice (some ⟨g, 0, none⟩) n (n + 1)) := by
      intro q hq
      match q, hq with
      | 0, _ => rfl
      | 1, _ => rfl
    have hOW : ∀ q, q < 2 → OwnRow (w8.alloc (.cells #[.slice A3 Z.length c3, .slice (some ⟨g, 0, none⟩) n (n + 1)] 25)) g (if q = 0 then .slice A3 Z.length c3 else .slice (some ⟨g, 0, none⟩) n (n + 1)) := by
      intro q hq
      match q, hq with
      | 0, _ => exact ((OwnRow.of_own T9.out.own).more (by omega)).alloc _
      | 1, _ =>
        refine OwnRow.alloc (.inr ⟨g, n, n + 1, _, rfl, Nat.le_refl _, T9.out.1.lent, ?_, by omega, by unfold maxLen; omega⟩) _
        simp [bvs, HL.out]
    have hDI : ∀ p q, p < 2 → q < 2 → p ≠ q → ((fun q => if q = 0 then Value.slice A3 Z.length c3 else .slice (some ⟨g, 0, none⟩) n (n + 1)) p).ownBlock = none ∨
        ((fun q => if q = 0 then Value.slice A3 Z.length c3 else .slice (some ⟨g, 0, none⟩) n (n + 1)) p).ownBlock ≠ ((fun q => if q = 0 then Value.slice A3 Z.length c3 else .slice (some ⟨g, 0, none⟩) n (n + 1)) q).ownBlock := by
      intro p q hp hq hpq
      match p, q, hp, hq with
      | 0, 0, _, _ => exact absurd rfl hpq
      | 1, 1, _, _ => exact absurd rfl hpq
      | 0, 1, _, _ => exact .inr (fun e => by have := (hxl g e).1; omega)
      | 1, 0, _, _ => exact .inr (fun e => by have := (hxl g e.symm).1; omega)
    have hfree : ∀ b, (b < g ∨ w4.heap.size ≤ b) → ∀ q, q < 2 → ((fun q => if q = 0 then Value.slice A3 Z.length c3 else .slice (some ⟨g, 0, none⟩) n (n + 1)) q).ownBlock ≠ some b := by
      intro b hb q hq
      match q, hq with
      | 0, _ => exact fun e => by have := hxl b e; omega
      | 1, _ => exact fun e => absurd (show g = b by simpa [Value.ownBlock] using e) (by omega)
    have HF := hide hfree
    have hz8 : w.heap.size ≤ w8.heap.size := T9.out.1.bel.size
    have hg8 : g ≤ w8.heap.size := Nat.le_of_lt T9.out.1.lent.lt
    have hp4 := T9.out.2.1.lt
    have hp6 := T9.out.2.2.lt
    have h46 : w4.heap.size ≤ w6.heap.size := Nat.le_of_lt P6.out.lt
    go_wp2_with fail
    refine (owned_all _ g w8.heap.size 2 2 (fun q => if q = 0 then .slice A3 Z.length c3 else .slice (some ⟨g, 0, none⟩) n (n + 1)) _ (by omega) (by omega) (by omega) hrow (Blk.new w8 25 _) (by simp; omega) hOW hDI).mono ?_
    rintro e w10 ⟨rfl, hb10, hrest⟩
    have K : ∀ b t cs, (b < g ∨ w4.heap.size ≤ b) → Blk w8 b t cs → Blk w10 b t cs := fun b t cs h1 h2 => by
      have h3 := h2.alloc (.cells #[.slice A3 Z.length c3, .slice (some ⟨g, 0, none⟩) n (n + 1)] 25)
      exact (hrest b h3.lt (HF.out b h1)).trans h3
    have T10 : Hid (Three3 w w10 s bs w4.heap.size w6.heap.size z ys) :=
      ⟨K _ _ _ (.inl hwg) T9.out.a, K _ _ _ (.inr (Nat.le_refl _)) T9.out.2.1, K _ _ _ (.inr h46) T9.out.2.2, (T9.out.1.bel.alloc hz8 _).trans (hb10.mono (Nat.le_of_lt hwg))⟩
    clear hrow hOW hDI hfree HF hrest hb10 K hxl
    go_wp2_with fail
    refine wp_region_held_drew (S := fun x => Three3 w x s bs w4.heap.size w6.heap.size z ys) (by kernel_rfl) T10.out.drew (fun hHeld => ?_)
    refine region_take (i := 0) (v := ?_) rfl (by kernel_rfl) (by kernel_rfl) (by kernel_rfl) (fun _ _ _ h => h) (Or.inl ⟨by rfl, ?_⟩) (by assumption) ?_
    rotate_left
    · (intro w' hSw; (try dsimp only at hSw); go_simp <;> with_reducible rfl)
    simp only [Act.put, List.setIfInBounds_toArray, List.set_cons_zero, List.set_cons_succ]
    refine region_take (i := 1) (v := ?_) rfl (by kernel_rfl) (by kernel_rfl) (by kernel_rfl) (fun _ _ _ h => h) (Or.inl ⟨by rfl, ?_⟩) (by assumption) ?_
    rotate_left
    · (intro w' hSw; (try dsimp only at hSw); go_simp <;> with_reducible rfl)
    simp only [Act.put, List.setIfInBounds_toArray, List.set_cons_zero, List.set_cons_succ]
    refine region_take (i := 2) (v := ?_) rfl (by kernel_rfl) (by kernel_rfl) (by kernel_rfl) (fun _ _ _ h => h) (Or.inl ⟨by rfl, ?_⟩) (by assumption) ?_
    rotate_left
    · (intro w' hSw; (try dsimp only at hSw); go_simp <;> with_reducible rfl)
    simp only [Act.put, List.setIfInBounds_toArray, List.set_cons_zero, List.set_cons_succ]
    refine region_take (i := 3) (v := ?_) rfl (by kernel_rfl) (by kernel_rfl) (by kernel_rfl) (fun _ _ _ h => h) (Or.inl ⟨by rfl, ?_⟩) (by assumption) ?_
    rotate_left
    · (intro w' hSw; (try dsimp only at hSw); go_simp <;> with_reducible rfl)
    simp only [Act.put, List.setIfInBounds_toArray, List.set_cons_zero, List.set_cons_succ]
    refine region_take (i := 4) (v := ?_) rfl (by kernel_rfl) (by kernel_rfl) (by kernel_rfl) (fun _ _ _ h => h) (Or.inl ⟨by rfl, ?_⟩) (by assumption) ?_
    rotate_left
    · (intro w' hSw; (try dsimp only at hSw); go_simp <;> with_reducible rfl)
    simp only [Act.put, List.setIfInBounds_toArray, List.set_cons_zero, List.set_cons_succ]
    refine region_take (i := 5) (v := ?_) rfl (by kernel_rfl) (by kernel_rfl) (by kernel_rfl) (fun _ _ _ h => h) (Or.inl ⟨by rfl, ?_⟩) (by assumption) ?_
    rotate_left
    · (intro w' hSw; (try dsimp only at hSw); go_simp <;> with_reducible rfl)
    simp only [Act.put, List.setIfInBounds_toArray, List.set_cons_zero, List.set_cons_succ]
    refine region_take (i := 6) (v := ?_) rfl (by kernel_rfl) (by kernel_rfl) (by kernel_rfl) (fun _ _ _ h => h) (Or.inl ⟨by rfl, ?_⟩) (by assumption) ?_
    rotate_left
    · (intro w' hSw; (try dsimp only at hSw); go_simp <;> with_reducible rfl)
    simp only [Act.put, List.setIfInBounds_toArray, List.set_cons_zero, List.set_cons_succ]
    refine region_take (i := 7) (v := ?_) rfl (by kernel_rfl) (by kernel_rfl) (by kernel_rfl) (fun _ _ _ h => h) (Or.inl ⟨by rfl, ?_⟩) (by assumption) ?_
    rotate_left
    · (intro w' hSw; (try dsimp only at hSw); go_simp <;> with_reducible rfl)
    simp only [Act.put, List.setIfInBounds_toArray, List.set_cons_zero, List.set_cons_succ]
    refine region_take (i := 8) (v := ?_) rfl (by kernel_rfl) (by kernel_rfl) (by kernel_rfl) (fun _ _ _ h => h) (Or.inl ⟨by rfl, ?_⟩) (by assumption) ?_
    rotate_left
    · (intro w' hSw; (try dsimp only at hSw); go_simp <;> with_reducible rfl)
    simp only [Act.put, List.setIfInBounds_toArray, List.set_cons_zero, List.set_cons_succ]
    refine region_take (i := 9) (v := ?_) rfl (by kernel_rfl) (by kernel_rfl) (by kernel_rfl) (fun _ _ _ h => h) (Or.inl ⟨by rfl, ?_⟩) (by assumption) ?_
    rotate_left
    · (intro w' hSw; (try dsimp only at hSw); go_simp <;> with_reducible rfl)
    simp only [Act.put, List.setIfInBounds_toArray, List.set_cons_zero, List.set_cons_succ]
    refine region_take (i := 10) (v := ?_) rfl (by kernel_rfl) (by kernel_rfl) (by kernel_rfl) (fun _ _ _ h => h) (Or.inl ⟨by rfl, ?_⟩) (by assumption) ?_
    rotate_left
    · (intro w' hSw; (try dsimp only at hSw); go_simp <;> with_reducible rfl)
    simp only [Act.put, List.setIfInBounds_toArray, List.set_cons_zero, List.set_cons_succ]
    refine region_take (i := 11) (v := (.agg (addrC z ys))) rfl (by kernel_rfl) (by kernel_rfl) (by kernel_rfl) (fun _ _ _ h => h) (Or.inl ⟨by rfl, ?_⟩) (by assumption) ?_
    · (intro w' hSw; exact exec_load_addr (.tmp 8) rfl w4.heap.size rfl hSw.b LY.out)
    simp only [Act.put, List.setIfInBounds_toArray, List.set_cons_zero, List.set_cons_succ]
    refine region_take (i := 12) (v := (.agg (addrC z ys))) rfl (by kernel_rfl) (by kernel_rfl) (by kernel_rfl) (fun _ _ _ h => h) (Or.inl ⟨by rfl, ?_⟩) (by assumption) ?_
    · (intro w' hSw; exact exec_load_addr (.tmp 10) rfl w6.heap.size rfl hSw.c LY.out)
    simp only [Act.put, List.setIfInBounds_toArray, List.set_cons_zero, List.set_cons_succ]
    refine region_take (i := 13) (v := (.bool true)) rfl (by kernel_rfl) (by kernel_rfl) (by kernel_rfl) (fun _ _ _ h => h) (Or.inl ⟨by rfl, ?_⟩) (by assumption) ?_
    · (intro w' hSw; exact exec_eql_addr (.tmp 54) (.tmp 55) rfl rfl rfl LY.out)
    simp only [Act.put, List.setIfInBounds_toArray, List.set_cons_zero, List.set_cons_succ]
    refine region_take (i := 14) (v := ?_) rfl (by kernel_rfl) (by kernel_rfl) (by kernel_rfl) (fun _ _ _ h => h) (Or.inl ⟨by rfl, ?_⟩) (by assumption) ?_
    rotate_left
    · (intro w' hSw; (try dsimp only at hSw); go_simp <;> with_reducible rfl)
    simp only [Act.put, List.setIfInBounds_toArray, List.set_cons_zero, List.set_cons_succ]
    refine region_take (i := 15) (v := ?_) rfl (by kernel_rfl) (by kernel_rfl) (by kernel_rfl) (fun _ _ _ h => h) (Or.inl ⟨by rfl, ?_⟩) (by assumption) ?_
    rotate_left
    · (intro w' hSw; (try dsimp only at hSw); go_simp <;> with_reducible rfl)
    simp only [Act.put, List.setIfInBounds_toArray, List.set_cons_zero, List.set_cons_succ]
    refine region_take (i := 16) (v := ?_) rfl (by kernel_rfl) (by kernel_rfl) (by kernel_rfl) (fun _ _ _ h => h) (Or.inl ⟨by rfl, ?_⟩) (by assumption) ?_
    rotate_left
    · (intro w' hSw; (try dsimp only at hSw); go_simp <;> with_reducible rfl)
    simp only [Act.put, List.setIfInBounds_toArray, List.set_cons_zero, List.set_cons_succ]
    refine region_take (i := 17) (v := ?_) rfl (by kernel_rfl) (by kernel_rfl) (by kernel_rfl) (fun _ _ _ h => h) (Or.inl ⟨by rfl, ?_⟩) (by assumption) ?_
    rotate_left
    · (intro w' hSw; (try dsimp only at hSw); go_simp <;> with_reducible rfl)
    simp only [Act.put, List.setIfInBounds_toArray, List.set_cons_zero, List.set_cons_succ]
    refine region_take (i := 18) (v := ?_) rfl (by kernel_rfl) (by kernel_rfl) (by kernel_rfl) (fun _ _ _ h => h) (Or.inl ⟨by rfl, ?_⟩) (by assumption) ?_
    rotate_left
    · (intro w' hSw; (try dsimp only at hSw); go_simp <;> with_reducible rfl)
    simp only [Act.put, List.setIfInBounds_toArray, List.set_cons_zero, List.set_cons_succ]
    refine region_take (i := 19) (v := ?_) rfl (by kernel_rfl) (by kernel_rfl) (by kernel_rfl) (fun _ _ _ h => h) (Or.inl ⟨by rfl, ?_⟩) (by assumption) ?_
    rotate_left
    · (intro w' hSw; (try dsimp only at hSw); go_simp <;> with_reducible rfl)
    simp only [Act.put, List.setIfInBounds_toArray, List.set_cons_zero, List.set_cons_succ]
    refine region_take (i := 20) (v := ?_) rfl (by kernel_rfl) (by kernel_rfl) (by kernel_rfl) (fun _ _ _ h => h) (Or.inl ⟨by rfl, ?_⟩) (by assumption) ?_
    rotate_left
    · (intro w' hSw; (try dsimp only at hSw); go_simp <;> with_reducible rfl)
    simp only [Act.put, List.setIfInBounds_toArray, List.set_cons_zero, List.set_cons_succ]
    refine region_take (i := 21) (v := (.agg (addrC s bs))) rfl (by kernel_rfl) (by kernel_rfl) (by kernel_rfl) (fun _ _ _ h => h) (Or.inl ⟨by rfl, ?_⟩) (by assumption) ?_
    · (intro w' hSw; exact exec_load_addr (.tmp 2) rfl w.heap.size rfl hSw.a LB.out)
    simp only [Act.put, List.setIfInBounds_toArray, List.set_cons_zero, List.set_cons_succ]
    refine region_take (i := 23) (v := (.agg (addrC s bs))) rfl (by kernel_rfl) (by kernel_rfl) (by kernel_rfl) (fun _ _ _ h => h) (Or.inl ⟨by rfl, ?_⟩) (by assumption) ?_
    · (intro w' hSw; exact exec_load_addr (.tmp 2) rfl w.heap.size rfl hSw.a LB.out)
    simp only [Act.put, List.setIfInBounds_toArray, List.set_cons_zero, List.set_cons_succ]
    refine region_call (i := 22) rfl (by kernel_rfl) (by rfl) (right_any _ s bs LB.out) (fun w => by kernel_rfl) ?_
    rintro e w12 ⟨rfl, hb12⟩; rw [HR.out]
    refine ⟨_, rfl, hHeld.on hb12, fun hHeld => ?_⟩
    simp only [Act.put, List.setIfInBounds_toArray, List.set_cons_zero, List.set_cons_succ]
    refine region_call (i := 24) rfl (by kernel_rfl) (by rfl) (refright_any _ s bs LB.out) (fun w => by kernel_rfl) ?_
    rintro e w13 ⟨rfl, hb13⟩; rw [HR.out]
    refine ⟨_, rfl, hHeld.on hb13, fun hHeld => ?_⟩
    simp only [Act.put, List.setIfInBounds_toArray, List.set_cons_zero, List.set_cons_succ]
    refine region_take (i := 25) (v := ?_) rfl (by kernel_rfl) (by kernel_rfl) (by kernel_rfl) (fun _ _ _ h => h) (Or.inl ⟨by rfl, ?_⟩) (by assumption) ?_
    rotate_left
    · (intro w' hSw; (try dsimp only at hSw); go_simp <;> with_reducible rfl)
    simp only [Act.put, List.setIfInBounds_toArray, List.set_cons_zero, List.set_cons_succ]
    refine region_take (i := 26) (v := ?_) rfl (by kernel_rfl) (by kernel_rfl) (by kernel_rfl) (fun _ _ _ h => h) (Or.inl ⟨by rfl, ?_⟩) (by assumption) ?_
    rotate_left
    · (intro w' hSw; (try dsimp only at hSw); go_simp <;> with_reducible rfl)
    simp only [Act.put, List.setIfInBounds_toArray, List.set_cons_zero, List.set_cons_succ]
    refine region_take (i := 27) (v := ?_) rfl (by kernel_rfl) (by kernel_rfl) (by kernel_rfl) (fun _ _ _ h => h) (Or.inl ⟨by rfl, ?_⟩) (by assumption) ?_
    rotate_left
    · (intro w' hSw; (try dsimp only at hSw); go_simp <;> with_reducible rfl)
    simp only [Act.put, List.setIfInBounds_toArray, List.set_cons_zero, List.set_cons_succ]
    refine wpAnyH_done (by kernel_rfl) ?_ _
    go_wp2
    go_ret
    exact ⟨rfl, hHeld.bel⟩
theorem bytes_walk (w : World) (hg : Glob w) (s : Int) (bs : List UInt8) (hl : bs.length = 16) (_ : -9223372036854775808 ≤ s ∧ s ≤ 9223372036854775807) (A : Option Addr) (n c : Nat) (xs : List UInt8) (hA : At w 0 w.heap.size A n xs) (hn : n ≤ c) (hc : c ≤ 140737488351232) :
    Calls Tryd.prog 3 #[.agg (addrC s bs), .slice A n c] w fun e w' => e = .returned (.bool true) ∧ Below w.heap.size w w' := by
  have hz : (bytesA s bs).length ≤ 16 := by
    unfold bytesA
    split
    · rw [List.length_take]; omega
    · simp
  have hy : (ofB xs).length = 16 := by
    unfold ofB
    split
    · rename_i h
      have := sizeA_nat h
      exact pad_len (by omega)
    · rfl
  exact bytes_core w hg s bs hl A n c xs hA hn hc _ (hide rfl) hz _ _ _ (hide ⟨rfl, rfl, rfl⟩) hy _ (hide rfl)
end Go.Proofs.YtjiddmepkbkgmaaDoor
