/-
  Read of package attr over what Write wrote of right attributes: all of it comes back. The conditions: the table stands, and each value can be said and written (Sayable).
-/
import Derived.Test.YtjhpikbilegfaaaDoorAtStep
import Derived.Test.YtjhpikbilegfaaaDoorAtRead4
namespace Go.Proofs.YtjhpikbilegfaaaDoor
open Go.RowKit
set_option linter.unusedVariables false
set_option linter.unusedSimpArgs false

theorem none_right : RightAt noneAt := ⟨by decide, by decide, by decide, by decide, .inl ⟨rfl, rfl⟩, by decide, by decide, by decide⟩
theorem say_right {i : Item} {x : Ats} (hx : RightAt x) (hi : i.Ok) : RightAt (i.say x) := by
  obtain ⟨h1, h2, h3, h4, h5, h6, h7, h8⟩ := hx
  cases i with
  | origin o => exact ⟨hi, h2, h3, h4, h5, h6, h7, h8⟩
  | path p => exact ⟨h1, h2, h3, hi, h5, h6, h7, h8⟩
  | med m => exact ⟨h1, ⟨by have := hi.1; show -1 ≤ m; omega, hi.2⟩, h3, h4, h5, h6, h7, h8⟩
  | pref m => exact ⟨h1, h2, ⟨by have := hi.1; show -1 ≤ m; omega, hi.2⟩, h4, h5, h6, h7, h8⟩
  | orig s b => exact ⟨h1, h2, h3, h4, .inr hi.2, h6, h7, h8⟩
  | clus l => exact ⟨h1, h2, h3, h4, h5, ⟨hi.2.1, hi.2.2.2⟩, h7, h8⟩
  | exts l => exact ⟨h1, h2, h3, h4, h5, h6, hi.2, h8⟩
  | tun t => exact ⟨h1, h2, h3, h4, h5, h6, h7, ⟨Nat.le_refl 1, by show (rightT t && true) = true; rw [hi.2]; rfl⟩⟩
theorem says_right : ∀ {l : List Item} {x : Ats}, RightAt x → (∀ i ∈ l, i.Ok) → RightAt (saysAt l x)
  | [], x, hx, _ => hx
  | i :: r, x, hx, h => says_right (l := r) (say_right hx (h i (by simp))) (fun j hj => h j (by simp [hj]))
theorem readw_any (w : World) (lo hi : Nat) (A : Option Addr) (n c : Nat) (l : List RawP) (h : RawsAt w lo hi A n l) (hh : hi ≤ w.heap.size) (hkn : Known w) (a : Ats) (hw : a.W) (hr : RightAt a) (hraws : l.map RawP.raw = writeAt a) (hS : ∀ i ∈ itemsAt a, ∀ a0, Sayable i a0) :
    Calls Tryd.prog 22 #[.slice A n c] w (ReadPost w a 0) := by
  have hok := items_ok hw hr
  have hlen : l.length = (itemsAt a).length := by
    have h1 := congrArg List.length hraws
    unfold writeAt at h1
    simpa using h1
  have hat : ∀ (j : Nat) (x : RawP), l[j]? = some x → ∃ i, (itemsAt a)[j]? = some i ∧ x.raw = i.rw := fun j x hx => by
    have h1 := congrArg (fun l : List Rw => l[j]?) hraws
    unfold writeAt at h1
    simp only [List.getElem?_map, hx, Option.map_some] at h1
    obtain ⟨i, h2, h3⟩ := Option.map_eq_some_iff.1 h1.symm
    exact ⟨i, h2, h3.symm⟩
  have hn : n ≤ 64 := by
    have h1 := write_len a
    have h2 := congrArg List.length hraws
    rw [List.length_map, h.len] at h2
    rw [h2, h1]
    have hif : ∀ (c : Prop) [Decidable c], (if c then 1 else 0 : Nat) ≤ 1 := fun c _ => by split <;> omega
    have hif2 : ∀ (c : Prop) [Decidable c], (if c then 0 else 1 : Nat) ≤ 1 := fun c _ => by split <;> omega
    have g1 := hif (0 ≤ a.med)
    have g2 := hif (0 ≤ a.pref)
    have g3 := hif (0 < a.os)
    have g4 := hif2 (a.cl = [])
    have g5 := hif2 (a.ex = [])
    have g6 := hif2 (a.tn = [])
    omega
  have hks : (l.map RawP.k).Pairwise (· < ·) := by
    have e : l.map RawP.k = (itemsAt a).map Item.kind := by
      have h1 := congrArg (List.map Rw.k) hraws
      unfold writeAt at h1
      rw [List.map_map, List.map_map] at h1
      exact h1
    rw [e, List.pairwise_map]
    exact items_rise a
  have key := readat_any w lo hi A n c l h hh hn (fun j => (saysAt ((itemsAt a).take j) noneAt, 0)) rfl
    ((List.pairwise_map.1 hks).imp (fun {x y} hxy e => by omega))
    (fun x hx => by
      obtain ⟨j, hj, hjx⟩ := List.getElem_of_mem hx
      obtain ⟨i, h1, h2⟩ := hat j x (by rw [List.getElem?_eq_getElem hj, hjx])
      have e : x.k = i.kind := congrArg Rw.k h2
      rw [e]
      exact ⟨(item_kinds i).1, (item_kinds i).2.2.2⟩)
    (fun j x hx wr r m lo2 cnt D p hb hrd hcm hab hpa hlo hrl hst => by
      obtain ⟨i, h1, h2⟩ := hat j x hx
      have hmem := List.mem_of_getElem? h1
      have hpre : RightAt (saysAt ((itemsAt a).take j) noneAt) := says_right none_right (fun i hi => hok i (List.mem_of_mem_take hi))
      have hnext : i.say (saysAt ((itemsAt a).take j) noneAt) = saysAt ((itemsAt a).take (j + 1)) noneAt := by
        rw [List.take_add_one, h1, saysAt_append]
        rfl
      refine ⟨0, rfl, ?_⟩
      have hq := nstep_yes w lo hi A n l h hh x (List.mem_of_getElem? hx) i h2 hkn (saysAt ((itemsAt a).take j) noneAt) ((rightAt_iff _).2 (say_right hpre (hok i hmem))) (hS i hmem _) wr r m lo2 cnt D p hb hrd hcm hab hpa hlo hrl hst
      rw [hnext] at hq
      exact hq)
  have hfull : saysAt ((itemsAt a).take n) noneAt = a := by
    rw [List.take_of_length_le (by rw [← hlen, h.len]; exact Nat.le_refl _)]
    exact says_items hr
  have key2 : Calls Tryd.prog 22 #[.slice A n c] w (ReadPost w (saysAt ((itemsAt a).take n) noneAt) 0) := key
  rw [hfull] at key2
  exact key2
end Go.Proofs.YtjhpikbilegfaaaDoor
