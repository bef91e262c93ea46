/-
  One step of Read at an attribute that is as it is written: it is taken. The one condition: the table of kinds holds what its text lays.
-/
import Derived.Test.YtjhpikbilegfaaaDoorAtRead4
namespace Go.Proofs.YtjhpikbilegfaaaDoor
open Go.RowKit
set_option linter.unusedVariables false
set_option linter.unusedSimpArgs false

theorem item_kinds (i : Item) : (Lit.int .i64 i.kind).wf = true ∧ (i.kind == 14) = false ∧ (i.kind == 15) = false ∧ i.kind ≠ 14 := by
  have h : ∀ k : Int, (k = 1 ∨ k = 2 ∨ k = 4 ∨ k = 5 ∨ k = 9 ∨ k = 10 ∨ k = 16 ∨ k = 22) → (Lit.int .i64 k).wf = true ∧ (k == 14) = false ∧ (k == 15) = false ∧ k ≠ 14 := by
    rintro k (rfl | rfl | rfl | rfl | rfl | rfl | rfl | rfl) <;> decide
  exact h i.kind (by cases i <;> simp [Item.kind])
theorem flagsOf_item (i : Item) (x : World) (h : Known x) : Calls Tryd.prog 76 #[.int .i64 i.kind] x fun e w' => e = .returned (.tuple #[.int .i64 i.flags, .bool true]) ∧ Below x.heap.size x w' := by
  cases i
  · exact flagsOf_1 x h
  · exact flagsOf_2 x h
  · exact flagsOf_4 x h
  · exact flagsOf_5 x h
  · exact flagsOf_9 x h
  · exact flagsOf_10 x h
  · exact flagsOf_16 x h
  · exact flagsOf_22 x h
/-- what the steps ask of an attribute: its value says it, and is written of what was said -/
structure Sayable (i : Item) (a0 : Ats) : Prop where
  said : ∀ (x : World) (lo hi : Nat) (A : Option Addr) (n c : Nat), At x lo hi A n i.value → hi ≤ x.heap.size → n ≤ c → Calls Tryd.prog 96 #[.int .i64 i.kind, .slice A n c] x (SaidPost x i.kind i)
  value : ∀ (x : World) (p' : AtP) (lo : Nat), AttrsAt x lo x.heap.size p' → p'.ats = i.say a0 → Calls Tryd.prog 34 #[.agg (attC p'), .int .i64 i.kind] x (ValPost x i.value true)
theorem nstep_yes (w : World) (lo hi : Nat) (A : Option Addr) (n : Nat) (l : List RawP) (h : RawsAt w lo hi A n l) (hh : hi ≤ w.heap.size) (x : RawP) (hx : x ∈ l) (i : Item) (hraw : x.raw = i.rw) (hkn : Known w) (a0 : Ats) (hR : rightAt (i.say a0) = true) (hS : Sayable i a0) :
    ∀ (wr : World) (r m lo2 cnt : Nat) (D : DataW Unit) (p : AtP), Below w.heap.size w wr → Blk wr r 92 (rdgC p m) → Came wr m cnt D → Absent D x.k → AttrsAt wr lo2 wr.heap.size p → lo2 ≤ wr.heap.size → r < lo2 → p.ats = a0 →
      Calls Tryd.prog 43 #[.pointer (some ⟨r, 0, none⟩), .agg (rawC x)] wr (NextPost wr r m lo2 (i.say a0) 0) := by
  intro wr r m lo2 cnt D p hbel hrd hmp hab hat hlo hr hats
  obtain ⟨hv, hnc⟩ := h.val x hx
  obtain ⟨f, k, Av, nv, cv, v⟩ := x
  have e1 : f = i.flags := congrArg Rw.f hraw
  have e2 : k = i.kind := congrArg Rw.k hraw
  have e3 : v = i.value := congrArg Rw.v hraw
  subst e1 e2 e3
  subst hats
  obtain ⟨k1, k2, k3, _⟩ := item_kinds i
  have hvr : At wr lo hi Av nv i.value := hv.below (hbel.mono hh)
  have hhr := Nat.le_trans hh hbel.size
  refine (next_take wr r m cnt D p i.flags i.kind 0 Av nv cv i.value hat.ob hrd hmp hab.at_ k1 k2 k3 (fun x w' => ∃ p', p'.ats = i.say p.ats ∧ AttrsAt w' lo2 w'.heap.size p' ∧ Blk w' r 92 (rdgC p' m) ∧ x.grownBy w' (some r)) (fun y hy => flagsOf_item i y ((hkn.below hbel).below hy)) (fun y hy => ?_)).mono ?_
  · exact take_yes y r m lo2 lo hi p i.kind i.flags Av nv cv i.value i (hrd.over hy) (hvr.below (hy.mono hhr)) (Nat.le_trans hhr hy.size) (hat.over hy) (Nat.le_trans hlo hy.size) hr (fun z hz hz2 => hS.said z lo hi Av nv cv hz hz2 hnc) (fun z p' hz hz2 => hS.value z p' lo2 hz hz2) hR
  · rintro e w' ⟨rfl, y, hy, p', h1, h2, h3, h4⟩
    exact ⟨rfl, p', h1, h2, h3, grown_trans (grown_of_below hy _) h4⟩
theorem nstep_no (w : World) (lo hi : Nat) (A : Option Addr) (n : Nat) (l : List RawP) (h : RawsAt w lo hi A n l) (hh : hi ≤ w.heap.size) (x : RawP) (hx : x ∈ l) (i : Item) (hraw : x.raw = i.rw) (hkn : Known w) (a0 : Ats) (hR : rightAt (i.say a0) = false) (hS : Sayable i a0) :
    ∀ (wr : World) (r m lo2 cnt : Nat) (D : DataW Unit) (p : AtP), Below w.heap.size w wr → Blk wr r 92 (rdgC p m) → Came wr m cnt D → Absent D x.k → AttrsAt wr lo2 wr.heap.size p → lo2 ≤ wr.heap.size → r < lo2 → p.ats = a0 →
      Calls Tryd.prog 43 #[.pointer (some ⟨r, 0, none⟩), .agg (rawC x)] wr (NextPost wr r m lo2 a0 2) := by
  intro wr r m lo2 cnt D p hbel hrd hmp hab hat hlo hr hats
  obtain ⟨hv, hnc⟩ := h.val x hx
  obtain ⟨f, k, Av, nv, cv, v⟩ := x
  have e1 : f = i.flags := congrArg Rw.f hraw
  have e2 : k = i.kind := congrArg Rw.k hraw
  have e3 : v = i.value := congrArg Rw.v hraw
  subst e1 e2 e3
  subst hats
  obtain ⟨k1, k2, k3, _⟩ := item_kinds i
  have hvr : At wr lo hi Av nv i.value := hv.below (hbel.mono hh)
  have hhr := Nat.le_trans hh hbel.size
  refine (next_take wr r m cnt D p i.flags i.kind 2 Av nv cv i.value hat.ob hrd hmp hab.at_ k1 k2 k3 (fun x w' => Below x.heap.size x w') (fun y hy => flagsOf_item i y ((hkn.below hbel).below hy)) (fun y hy => ?_)).mono ?_
  · exact take_no y r m lo2 lo hi p i.kind i.flags Av nv cv i.value i (hrd.over hy) (hvr.below (hy.mono hhr)) (Nat.le_trans hhr hy.size) (hat.over hy) (Nat.le_trans hlo hy.size) hr (fun z hz hz2 => hS.said z lo hi Av nv cv hz hz2 hnc) (fun z p' hz hz2 => hS.value z p' lo2 hz hz2) hR
  · rintro e w' ⟨rfl, y, hy, h2⟩
    have hb := below_step hy h2 (Nat.le_refl _)
    exact ⟨rfl, p, rfl, hat.over hb, hrd.over hb, grown_of_below hb _⟩
theorem nstep_77 (w : World) (lo hi : Nat) (hh : hi ≤ w.heap.size) (A : Option Addr) (n c : Nat) (v : List UInt8) (hkn : Known w) (a0 : Ats) :
    ∀ (wr : World) (r m lo2 cnt : Nat) (D : DataW Unit) (p : AtP), Below w.heap.size w wr → Blk wr r 92 (rdgC p m) → Came wr m cnt D → Absent D 77 → AttrsAt wr lo2 wr.heap.size p → lo2 ≤ wr.heap.size → r < lo2 → p.ats = a0 →
      Calls Tryd.prog 43 #[.pointer (some ⟨r, 0, none⟩), .agg (rawC ⟨64, 77, A, n, c, v⟩)] wr (NextPost wr r m lo2 a0 3) := by
  intro wr r m lo2 cnt D p hbel hrd hmp hab hat hlo hr hats
  subst hats
  refine (next_77 wr r m cnt D p A n c v hat.ob hrd hmp hab.at_ (hkn.below hbel)).mono ?_
  rintro e w' ⟨rfl, hb⟩
  exact ⟨rfl, p, rfl, hat.over hb, hrd.over hb, grown_of_below hb _⟩
/-! ### what says numbers -/
theorem say_origin (O : Nat) (hO : O ≤ 255) (a0 : Ats) : Sayable (.origin (O : Nat)) a0 where
  said := fun x lo hi A n c h hh _ => by
    have h1 : At x lo hi A n [UInt8.ofNat ((O : Nat) : Int).toNat] := h
    rw [Int.toNat_natCast] at h1
    have h2 := said_1 x lo hi A n c (UInt8.ofNat O) h1 hh
    rw [u8rw_of (by omega)] at h2
    exact h2
  value := fun x p' lo h he => by
    have h1 : p'.o = (O : Int) := congrArg Ats.o he
    have h2 := value_1 x lo x.heap.size p' h (Nat.le_refl _) O h1 hO
    have h3 : Item.value (.origin (O : Nat)) = [UInt8.ofNat O] := by show [UInt8.ofNat ((O : Nat) : Int).toNat] = _; rw [Int.toNat_natCast]
    rw [h3]
    exact h2
theorem say_med (m : Nat) (hm : m ≤ 4294967295) (a0 : Ats) : Sayable (.med (m : Nat)) a0 where
  said := fun x lo hi A n c h hh _ => by
    have h1 : At x lo hi A n (be 4 ((m : Nat) : Int).toNat) := h
    rw [Int.toNat_natCast] at h1
    exact said_4 x lo hi A n c m hm h1 hh
  value := fun x p' lo h he => by
    have h1 : p'.med = (m : Int) := congrArg Ats.med he
    have h2 := value_4 x lo x.heap.size p' h (Nat.le_refl _) (by rw [h1]; omega)
    rw [h1] at h2
    exact h2
theorem say_pref (m : Nat) (hm : m ≤ 4294967295) (a0 : Ats) : Sayable (.pref (m : Nat)) a0 where
  said := fun x lo hi A n c h hh _ => by
    have h1 : At x lo hi A n (be 4 ((m : Nat) : Int).toNat) := h
    rw [Int.toNat_natCast] at h1
    exact said_5 x lo hi A n c m hm h1 hh
  value := fun x p' lo h he => by
    have h1 : p'.pref = (m : Int) := congrArg Ats.pref he
    have h2 := value_5 x lo x.heap.size p' h (Nat.le_refl _) (by rw [h1]; omega)
    rw [h1] at h2
    exact h2
end Go.Proofs.YtjhpikbilegfaaaDoor
