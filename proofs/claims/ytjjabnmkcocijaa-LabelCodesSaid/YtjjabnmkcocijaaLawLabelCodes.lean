/-
  LabelCodes returns true, whatever number, whatever mark, whatever slice of bytes come in; what was there stays as it was. The one condition: the slice fits memory.
-/
import Derived.Test.YtjjabnmkcocijaaRefLabel
import Derived.Test.YtjjabnmkcocijaaLabel
import Derived.Test.YtjjabnmkcocijaaOwned
namespace Go.Proofs.Ytjjabnmkcocijaa
open Go.RowKit
set_option linter.unusedVariables false
set_option linter.unusedSimpArgs false

def codeX (x : Int) (last : Bool) : List UInt8 := if x < 0 ∨ 1048575 < x then [] else codeL x.toNat last
def codeE (x : Int) : Int := if x < 0 ∨ 1048575 < x then 5 else 0
theorem labytes_any (w : World) (x : Int) (last : Bool) :
    Calls Try.prog 6 #[.int .i64 x, .bool last] w fun e w' => ∃ v, e = .returned (.tuple #[v, .int .i64 (codeE x)]) ∧ w'.ownsRow w.heap.size 5 1 v (codeX x last).length (bvs (codeX x last)) ∧ Below w.heap.size w w' := by
  unfold codeX codeE
  by_cases hx : x < 0 ∨ 1048575 < x
  · rw [if_pos hx, if_pos hx]
    refine (bytes_no w x last hx).mono ?_
    rintro e w1 ⟨rfl, rfl⟩
    exact ⟨_, rfl, World.ownsRow_nil _ _ _ _, Below.refl _ _⟩
  · rw [if_neg hx, if_neg hx]
    obtain ⟨m, rfl⟩ : ∃ m : Nat, x = m := ⟨x.toNat, by omega⟩
    refine (bytes_yes w m last (by omega)).mono ?_
    rintro e w1 ⟨v, rfl, ho, hb⟩
    exact ⟨v, rfl, by rw [show (codeL (m : Int).toNat last).length = 3 from be_len 3 _]; exact ho, hb⟩
theorem rebytes_any (w : World) (x : Int) (last : Bool) :
    Calls Try.prog 8 #[.int .i64 x, .bool last] w fun e w' => ∃ v, e = .returned (.tuple #[v, .int .i64 (codeE x)]) ∧ w'.ownsRow w.heap.size 5 1 v (codeX x last).length (bvs (codeX x last)) ∧ Below w.heap.size w w' := by
  unfold codeX codeE
  by_cases hx : x < 0 ∨ 1048575 < x
  · rw [if_pos hx, if_pos hx]
    refine (reflab_no w x last hx).mono ?_
    rintro e w1 ⟨rfl, rfl⟩
    exact ⟨_, rfl, World.ownsRow_nil _ _ _ _, Below.refl _ _⟩
  · rw [if_neg hx, if_neg hx]
    obtain ⟨m, rfl⟩ : ∃ m : Nat, x = m := ⟨x.toNat, by omega⟩
    refine (reflab_yes w m last (by omega)).mono ?_
    rintro e w1 ⟨v, rfl, ho, hb⟩
    exact ⟨v, rfl, by rw [show (codeL (m : Int).toNat last).length = 3 from be_len 3 _]; exact ho, hb⟩
theorem ownRow_of {w : World} {base : Nat} {v : Value} {n : Nat} {xs : List Value} (h : w.ownsRow base 5 1 v n xs) : OwnRow w base v := by
  rcases h.2 with ⟨h, _⟩ | ⟨g, cap, cur, h1, h2, h3, h4, h5, h6, _⟩
  · exact .inl h
  · exact .inr ⟨g, n, cap, cur, h1, h2, h3, by omega, h4, h5⟩
theorem at_loan {w : World} {g n : Nat} {t : TypeId} {bs : List UInt8} {l : List Value} (hb : Blk w g t (bvs bs ++ l).toArray) (hl : bs.length = n) : At w g (g + 1) (some ⟨g, 0, none⟩) n bs :=
  ⟨hl, fun _ => ⟨g, 0, rfl, Nat.le_refl _, by omega, fun j u hu => by
    have hj : j < bs.length := (List.getElem?_eq_some_iff.1 hu).1
    rw [Nat.zero_add, hb.cell j]
    simp [bvs, List.getElem?_append, hj]
    rw [(List.getElem?_eq_some_iff.1 hu).2]⟩⟩

set_option maxRecDepth 20000 in
set_option maxHeartbeats 2000000 in
theorem labcodes_any (w : World) (x : Int) (wx : (Lit.int .i64 x).wf = true) (last : Bool) (A : Option Addr) (n c : Nat) (bs : List UInt8) (hA : At w 0 w.heap.size A n bs) (_hn : n ≤ c) (_hc : c ≤ 140737488351232) :
    Calls Try.prog 3 #[.int .i64 x, .bool last, .slice A n c] w fun e w' => e = .returned (.bool true) ∧ Below w.heap.size w w' := by
  have HL := hide hA.len
  have HA := hide hA
  have hn2 : n ≤ 140737488351232 := by omega
  clear hA _hn _hc
  go_enter Try.func3, Try.ntmps3
  go_wp2_with fail
  refine (labsmall_any w).mono ?_
  rintro e w1 ⟨rfl, hb⟩
  have HB1 := hide hb
  have HA1 := hide (HA.out.below hb)
  have hz1 := hb.size
  clear hb
  by_cases hbig : 4096 < (n : Int)
  · go_wp2
    go_ret
    exact ⟨rfl, HB1.out⟩
  have hn4 : n ≤ 4096 := by omega
  go_wp2_with fail
  refine (lent_any _ 0 w.heap.size A n c bs HA1.out hz1 (by omega)).mono ?_
  rintro e2 w2 ⟨rfl, hblk, hbel⟩
  obtain ⟨g, hg⟩ : ∃ g, w1.heap.size = g := ⟨_, rfl⟩
  rw [hg] at hblk hbel
  rw [hg]
  have hzg : w.heap.size ≤ g := by omega
  have HK2 := hide hblk
  have HB2 : Hid (Below w.heap.size w w2) := hide (HB1.out.trans (hbel.mono (by omega)))
  have HA2 := hide (HA1.out.below (hbel.mono hzg))
  have HI2 := hide (at_loan hblk HL.out)
  have hg2 := hblk.lt
  clear hbel hblk hg hz1
  go_wp2_with fail
  refine (labytes_any w2 x last).mono ?_
  rintro e3 w3 ⟨v3, rfl, hown, hbel⟩
  obtain ⟨A3, c3, rfl, hc3, _⟩ := own_shape hown
  have HO3 := hide hown
  have HK3 := hide (HK2.out.below hbel hg2)
  have HI3 := hide (HI2.out.below (hbel.mono (by omega)))
  have HB3 : Hid (Below w.heap.size w w3) := hide (below_step HB2.out hbel (Nat.le_refl _))
  have HA3 := hide (HA2.out.below (hbel.mono (by omega)))
  have hz3 := HB3.out.size
  have hz23 := hbel.size
  clear hown hbel
  go_wp2_with fail
  refine (read_any w3 (some ⟨g, 0, none⟩) n (n + 1) bs HI3.out (by omega) (by omega)).mono ?_
  rintro e4 w4 ⟨rfl, hbel⟩
  have HO4 := hide (HO3.out.kept (grown_of_below hbel none) (by
      rcases A3 with _ | a
      · exact .inl rfl
      · exact .inr (by simp [Value.ownBlock])))
  have HX4 := hide ((At.own HO3.out).below hbel)
  have HK4 := hide (HK3.out.below hbel (by omega))
  have HB4 : Hid (Below w.heap.size w w4) := hide (below_step HB3.out hbel (Nat.le_refl _))
  have HA4 := hide (HA3.out.below (hbel.mono hz3))
  have hz4 := HB4.out.size
  have hz34 := hbel.size
  clear hbel
  go_wp2_with fail
  refine (rebytes_any w4 x last).mono ?_
  rintro e5 w5 ⟨v5, rfl, hown, hbel⟩
  obtain ⟨A5, c5, rfl, hc5, _⟩ := own_shape hown
  have HO5 := hide (HO4.out.kept (grown_of_below hbel none) (by
      rcases A3 with _ | a
      · exact .inl rfl
      · exact .inr (by simp [Value.ownBlock])))
  have HX5 := hide (HX4.out.below (hbel.mono (by omega)))
  have HY5 := hide (At.own hown)
  have HK5 := hide (HK4.out.below hbel (by omega))
  have HB5 : Hid (Below w.heap.size w w5) := hide (below_step HB4.out hbel (Nat.le_refl _))
  have HA5 := hide (HA4.out.below (hbel.mono hz4))
  have hz5 := HB5.out.size
  have hz45 := hbel.size
  clear hown hbel
  go_wp2_with fail
  refine (refread_any w5 A n c bs HA5.out hn4).mono ?_
  rintro e6 w6 ⟨rfl, rfl⟩
  go_wp2_with fail
  refine (kept_any _ g 0 w.heap.size A n c bs HK5.out HA5.out (by omega)).mono ?_
  rintro e7 w7 ⟨rfl, rfl⟩
  obtain ⟨yc, hyc⟩ : ∃ y, codeX x last = y := ⟨_, rfl⟩
  have HYC := hide hyc
  rw [hyc] at HO5 HX5 HY5
  have tX := HX5.out.text (P := Try.prog) 22 5 Try.underlying22 Try.underlying5 c3 9 Try.underlying9
  have tY := HY5.out.text (P := Try.prog) 22 5 Try.underlying22 Try.underlying5 c5 9 Try.underlying9
  rw [hyc]
  clear hyc
  obtain ⟨ln, hln⟩ : ∃ ln, yc.length = ln := ⟨_, rfl⟩
  rw [hln] at HO5 HX5 HY5 tX tY
  rw [hln]
  clear hln
  go_wp2_with fail
  have hrow : ∀ q, q < 2 → (#[.slice A3 ln c3, .slice (some ⟨g, 0, none⟩) n (n + 1)] : Array Value)[q]? = some (if q = 0 then .slice A3 ln c3 else .slice (some ⟨g, 0, none⟩) n (n + 1)) := by
    intro q hq
    match q, hq with
    | 0, _ => rfl
    | 1, _ => rfl
  have hOW : ∀ q, q < 2 → OwnRow (w5.alloc (.cells #[.slice A3 ln c3, .slice (some ⟨g, 0, none⟩) n (n + 1)] 22)) w.heap.size (if q = 0 then .slice A3 ln c3 else .slice (some ⟨g, 0, none⟩) n (n + 1)) := by
    intro q hq
    match q, hq with
    | 0, _ => exact ((ownRow_of HO5.out).more (by omega)).alloc _
    | 1, _ =>
      refine OwnRow.alloc (.inr ⟨g, n, n + 1, _, rfl, hzg, HK5.out, ?_, by omega, by unfold maxLen; omega⟩) _
      simp [bvs, HL.out]
  have hDI : ∀ p q, p < 2 → q < 2 → p ≠ q → ((fun q => if q = 0 then Value.slice A3 ln c3 else .slice (some ⟨g, 0, none⟩) n (n + 1)) p).ownBlock = none ∨
      ((fun q => if q = 0 then Value.slice A3 ln c3 else .slice (some ⟨g, 0, none⟩) n (n + 1)) p).ownBlock ≠ ((fun q => if q = 0 then Value.slice A3 ln c3 else .slice (some ⟨g, 0, none⟩) n (n + 1)) q).ownBlock := by
    have hne : ∀ a, (Value.slice A3 ln c3).ownBlock = some a → g < a := fun a ha => by have := (HO5.out.lt a ha).1; omega
    intro p q hp hq hpq
    match p, q, hp, hq with
    | 0, 0, _, _ => exact absurd rfl hpq
    | 1, 1, _, _ => exact absurd rfl hpq
    | 0, 1, _, _ => exact .inr (fun e => by have := hne g e; omega)
    | 1, 0, _, _ => exact .inr (fun e => by have := hne g e.symm; omega)
  refine (owned_any _ w.heap.size w5.heap.size 2 2 (fun q => if q = 0 then .slice A3 ln c3 else .slice (some ⟨g, 0, none⟩) n (n + 1)) _ (by omega) (by omega) (by omega) hrow (Blk.new w5 22 _) (by simp; omega) hOW hDI).mono ?_
  rintro e8 w8 ⟨rfl, hbel⟩
  have HB8 : Hid (Below w.heap.size w w8) := hide ((HB5.out.alloc hz5 _).trans hbel)
  clear hbel hrow hOW hDI tX tY
  go_wp2_with fail
  go_ret
  exact ⟨rfl, HB8.out⟩
end Go.Proofs.Ytjjabnmkcocijaa
