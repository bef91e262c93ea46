/-
  CursorPuts returns true, whatever two slices of bytes and whatever two numbers come in; what was there stays as it was. The one condition: the slices fit memory.
-/
import Derived.Test.YtopnjiefkhdapaaSmall
import Derived.Test.YtopnjiefkhdapaaRefs
namespace Go.Proofs.Ytopnjiefkhdapaa
open Go.RowKit
set_option linter.unusedVariables false
set_option linter.unusedSimpArgs false

theorem OwnRow.of_own {w : World} {base : Nat} {v : Value} {n : Nat} {xs : List Value} (h : w.ownsRow base 5 1 v n xs) : OwnRow w base v := by
  rcases h.2 with ⟨h, _⟩ | ⟨g, cap, cur, h1, h2, h3, h4, h5, h6, _⟩
  · exact .inl h
  · exact .inr ⟨g, n, cap, cur, h1, h2, h3, by omega, h4, h5⟩
theorem at_lent {w : World} {g n : Nat} {t : TypeId} {bs : List UInt8} {l : List Value} (hb : Blk w g t (bvs bs ++ l).toArray) (hl : bs.length = n) : At w g (g + 1) (some ⟨g, 0, none⟩) n bs :=
  ⟨hl, fun _ => ⟨g, 0, rfl, Nat.le_refl _, by omega, fun j u hu => by
    have hj : j < bs.length := (List.getElem?_eq_some_iff.1 hu).1
    rw [Nat.zero_add, hb.cell j]
    simp [bvs, List.getElem?_append, hj]
    rw [(List.getElem?_eq_some_iff.1 hu).2]⟩⟩

set_option maxHeartbeats 2000000 in
theorem puts_walk (w : World) (A : Option Addr) (n c : Nat) (bs : List UInt8) (hA : At w 0 w.heap.size A n bs) (_hn : n ≤ c) (_hc : c ≤ 140737488351232) (x : Int) (_wx : (Lit.int .i64 x).wf = true) (k : Int) (_wk : (Lit.int .i64 k).wf = true)
    (C : Option Addr) (m d : Nat) (zs : List UInt8) (hC : At w 0 w.heap.size C m zs) (_hm : m ≤ d) (_hd : d ≤ 140737488351232) :
    Calls Try.prog 3 #[.slice A n c, .int .i64 x, .int .i64 k, .slice C m d] w fun e w' => e = .returned (.bool true) ∧ Below w.heap.size w w' := by
  have HL := hide hA.len
  have HA := hide hA
  have HC := hide hC
  clear hA hC
  go_enter Try.func3, Try.ntmps3
  go_wp2_with fail
  refine (small_any _).mono ?_
  rintro e1 w1 ⟨rfl, hbel⟩
  have HB1 := hide hbel
  have HA1 := hide (HA.out.below hbel)
  have HC1 := hide (HC.out.below hbel)
  have hz1 := hbel.size
  clear hbel
  go_wp2_with fail
  refine (lent_any _ 0 w.heap.size A n c bs HA1.out hz1 (by omega)).mono ?_
  rintro e2 w2 ⟨rfl, hblk, hbel⟩
  obtain ⟨g, hg⟩ : ∃ g, w1.heap.size = g := ⟨_, rfl⟩
  rw [hg] at hblk hbel
  rw [hg]
  have hzg : w.heap.size ≤ g := by omega
  have HK2 := hide hblk
  have HB2 : Hid (Below w.heap.size w w2) := HB1.out.trans (hbel.mono (by omega))
  have HA2 := hide (HA1.out.below (hbel.mono hzg))
  have HC2 := hide (HC1.out.below (hbel.mono hzg))
  have HI2 := hide (at_lent hblk HL.out)
  have hg2 := hblk.lt
  clear hbel hblk hg hz1
  go_wp2_with fail
  refine (put_any _ g (g + 1) _ n (n + 1) bs HI2.out (by omega) (by omega) x k).mono ?_
  rintro e3 w3 ⟨v3, rfl, hown, hbel⟩
  obtain ⟨A3, c3, rfl, hc3, _⟩ := own_shape hown
  have HO3 := hide hown
  have HK3 := hide (HK2.out.below hbel hg2)
  have HB3 : Hid (Below w.heap.size w w3) := below_step HB2.out hbel (Nat.le_refl _)
  have HA3 := hide (HA2.out.below (hbel.mono (by omega)))
  have HC3 := hide (HC2.out.below (hbel.mono (by omega)))
  have hz3 := HB3.out.size
  have hz23 := hbel.size
  clear hown hbel
  go_wp2_with fail
  refine (refput_any _ 0 w.heap.size A n c bs HA3.out hz3 (by omega) x k).mono ?_
  rintro e4 w4 ⟨v4, rfl, hown, hbel⟩
  obtain ⟨A4, c4, rfl, hc4, _⟩ := own_shape hown
  have HX4 := hide ((At.own HO3.out).below hbel)
  have HY4 := hide (At.own hown)
  have HO4 := hide (HO3.out.kept (grown_of_below hbel none) (by
      rcases A3 with _ | a
      · exact .inl rfl
      · exact .inr (by simp [Value.ownBlock])))
  have HK4 := hide (HK3.out.below hbel (by omega))
  have HB4 : Hid (Below w.heap.size w w4) := below_step HB3.out hbel (Nat.le_refl _)
  have HA4 := hide (HA3.out.below (hbel.mono hz3))
  have HC4 := hide (HC3.out.below (hbel.mono hz3))
  have hz4 := HB4.out.size
  have hg4 : g < w4.heap.size := by have := hbel.size; omega
  clear hown hbel
  go_wp2_with fail
  refine (kept_any _ g 0 w.heap.size A n c bs HK4.out HA4.out (by omega)).mono ?_
  rintro e5 w5 ⟨rfl, rfl⟩
  have tX := HX4.out.text (P := Try.prog) 22 5 Try.underlying22 Try.underlying5 c3 9 Try.underlying9
  have tY := HY4.out.text (P := Try.prog) 22 5 Try.underlying22 Try.underlying5 c4 9 Try.underlying9
  go_wp2_with fail
  have hrow : ∀ q, q < 2 → (#[.slice A3 (putOut bs x k).length c3, .slice (some ⟨g, 0, none⟩) n (n + 1)] : Array Value)[q]? = some (if q = 0 then .slice A3 (putOut bs x k).length c3 else .slice (some ⟨g, 0, none⟩) n (n + 1)) := by
    intro q hq
    match q, hq with
    | 0, _ => rfl
    | 1, _ => rfl
  have hOW : ∀ q, q < 2 → OwnRow (w4.alloc (.cells #[.slice A3 (putOut bs x k).length c3, .slice (some ⟨g, 0, none⟩) n (n + 1)] 22)) w.heap.size (if q = 0 then .slice A3 (putOut bs x k).length c3 else .slice (some ⟨g, 0, none⟩) n (n + 1)) := by
    intro q hq
    match q, hq with
    | 0, _ => exact ((OwnRow.of_own HO4.out).more (by omega)).alloc _
    | 1, _ =>
      refine OwnRow.alloc (.inr ⟨g, n, n + 1, _, rfl, hzg, HK4.out, ?_, by omega, by unfold maxLen; omega⟩) _
      simp [bvs, HL.out]
  have hDI : ∀ p q, p < 2 → q < 2 → p ≠ q → ((fun q => if q = 0 then Value.slice A3 (putOut bs x k).length c3 else .slice (some ⟨g, 0, none⟩) n (n + 1)) p).ownBlock = none ∨
      ((fun q => if q = 0 then Value.slice A3 (putOut bs x k).length c3 else .slice (some ⟨g, 0, none⟩) n (n + 1)) p).ownBlock ≠ ((fun q => if q = 0 then Value.slice A3 (putOut bs x k).length c3 else .slice (some ⟨g, 0, none⟩) n (n + 1)) q).ownBlock := by
    have hne : ∀ a, (Value.slice A3 (putOut bs x k).length c3).ownBlock = some a → g < a := fun a ha => by have := (HO4.out.lt a ha).1; omega
    intro p q hp hq hpq
    match p, q, hp, hq with
    | 0, 0, _, _ => exact absurd rfl hpq
    | 1, 1, _, _ => exact absurd rfl hpq
    | 0, 1, _, _ => exact .inr (fun e => by have := hne g e; omega)
    | 1, 0, _, _ => exact .inr (fun e => by have := hne g e.symm; omega)
  refine (owned_any _ w.heap.size w4.heap.size 2 2 (fun q => if q = 0 then .slice A3 (putOut bs x k).length c3 else .slice (some ⟨g, 0, none⟩) n (n + 1)) _ (by omega) (by omega) (by omega) hrow (Blk.new w4 22 _) (by simp; omega) hOW hDI).mono ?_
  rintro e6 w6 ⟨rfl, hbel⟩
  have HA6 := hide ((HA4.out.alloc hz4 _).below hbel)
  have HC6 := hide ((HC4.out.alloc hz4 _).below hbel)
  have HB6 : Hid (Below w.heap.size w w6) := (HB4.out.alloc hz4 _).trans hbel
  clear hbel hrow hOW hDI tX tY
  go_wp2_with fail
  refine (order_any _ _ _ _ _ _ _ _ _ _ _ bs zs HA6.out HC6.out).mono ?_
  rintro e7 w7 ⟨rfl, rfl⟩
  go_wp2_with fail
  refine (reforder_any _ _ _ _ _ _ _ _ _ _ _ bs zs HA6.out HC6.out (by omega) (by omega)).mono ?_
  rintro e8 w8 ⟨rfl, q, rfl⟩
  go_wp2_with fail
  go_ret
  exact ⟨rfl, below_drewN HB6.out q⟩
end Go.Proofs.Ytopnjiefkhdapaa
