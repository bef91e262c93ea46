/-
  What join and zeros of package addr do. The one condition: the numbers are below 65536, and there are few of them.
-/
import Derived.Test.YthhmplmkdakmgaaDoorFmt
import Derived.Test.YthhmplmkdakmgaaDoorMath
namespace Go.Proofs.YthhmplmkdakmgaaDoor
open Go.RowKit
set_option linter.unusedVariables false
set_option linter.unusedSimpArgs false

def sv (x : List UInt8) : Value := .string ⟨x.toArray⟩
def svs (xs : List (List UInt8)) : List Value := xs.map sv
theorem svs_one (xs : List (List UInt8)) : ∀ u ∈ svs xs, u.oneCell' = true := by
  intro u hu
  simp only [svs, List.mem_map] at hu
  obtain ⟨b, _, rfl⟩ := hu
  rfl
/-- a slice reads as ints -/
def AtI (w : World) (lo hi : Nat) (A : Option Addr) (n : Nat) (xs : List Nat) : Prop :=
  xs.length = n ∧ (0 < n → ∃ b o, A = some ⟨b, o, none⟩ ∧ lo ≤ b ∧ b < hi ∧ ∀ j (x : Nat), xs[j]? = some x → w.cell? ⟨b, o + j, none⟩ = some (.int .i64 (x : Int)))
section
variable {w w' : World} {lo hi n : Nat} {A : Option Addr} {xs : List Nat}
theorem AtI.len (h : AtI w lo hi A n xs) : xs.length = n := h.1
theorem AtI.keep (h : AtI w lo hi A n xs) (hk : ∀ p : Addr, lo ≤ p.block → p.block < hi → w'.cell? p = w.cell? p) : AtI w' lo hi A n xs :=
  ⟨h.1, fun hn => by
    obtain ⟨b, o, e, h1, h2, hc⟩ := h.2 hn
    exact ⟨b, o, e, h1, h2, fun j u hu => (hk _ h1 h2).trans (hc j u hu)⟩⟩
theorem AtI.below {B : Nat} (h : AtI w lo hi A n xs) (hb : Below B w w') (hB : hi ≤ B) : AtI w' lo hi A n xs := h.keep fun _ _ hp => hb.cell (by omega)
theorem AtI.at_ {k : Nat} (h : AtI w lo hi A n xs) (hk : k < n) : ∃ b o x, A = some ⟨b, o, none⟩ ∧ xs[k]? = some x ∧ w.cell? ⟨b, o + k, none⟩ = some (.int .i64 (x : Int)) := by
  obtain ⟨b, o, e, _, _, hc⟩ := h.2 (by omega)
  have hl : k < xs.length := by rw [h.1]; exact hk
  exact ⟨b, o, xs[k], e, List.getElem?_eq_getElem hl, hc k _ (List.getElem?_eq_getElem hl)⟩
theorem AtI.drewN (h : AtI w lo hi A n xs) (k : Nat) : AtI (w.drewN k) lo hi A n xs := h
end
theorem str_info : (Tryd.prog.info? 9).map (fun i => (i.zero, i.size, i.bytes)) = some (some (.string ⟨#[]⟩), 1, 16) := by kernel_rfl

/-- append of one text onto a row of the call's own -/
theorem wpList_append_str {w : World} {ops : Array Oper} {rest : List Oper} {o : Oper} {a : Act} {Q : Exit → Act → World → Prop} (hgd : o.guard = none) (s x : Operand)
    (ho : o.op = .call { callee := .builtin .append, args := #[s, x], argTypes := #[54, 54] })
    (base : Nat) (v : Value) (n : Nat) (xs : List (List UInt8)) (hs : a.eval s = v) (hown : w.ownsRow base 9 1 v n (svs xs))
    (g : Nat) (t : TypeId) (y : List UInt8) (hx : a.eval x = .slice (some ⟨g, 0, none⟩) 1 1) (hb : Blk w g t #[sv y]) (hn : n ≤ 8000000000000) (hbase : base ≤ w.heap.size)
    (h : ∀ v' w', w'.ownsRow base 9 1 v' (n + 1) (svs (xs ++ [y])) → w.grownBy w' v.ownBlock → wpList Tryd.prog ops Q rest (a.put o.dst v') w') : wpList Tryd.prog ops Q (o :: rest) a w := by
  obtain ⟨i0, hi0, hz0, hz1, hz2⟩ := info_parts str_info
  refine wpList_append_own w hgd s x 54 ho base 9 i0 (.string ⟨#[]⟩) 1 16 Tryd.underlying54 hi0 hz0 hz1 hz2 rfl (by decide) v n (svs xs) hs hown ⟨g, 0, none⟩ 1 1 [sv y] hx rfl ?_ ?_ (by unfold maxLen; omega) (by omega) hbase
    (fun v' w' h1 h2 _ => h v' w' (by unfold svs at h1 ⊢; rw [List.map_append]; exact h1) h2)
  · intro j u hu
    match j, hu with
    | 0, hu =>
      simp at hu
      subst hu
      exact hb.cell 0
  · intro u hu
    simp at hu
    subst hu
    rfl
/-- strings.Join at a row of the call's own -/
theorem joined_any (w : World) (base : Nat) {e : TypeId} (A : Option Addr) (n c : Nat) (xs : List (List UInt8)) (sep : List UInt8) (hown : w.ownsRow base e 1 (.slice A n c) n (svs xs)) (hn : n ≤ 1000000) (B : Nat) (hB : B + sep.length ≤ 1000) (hx : ∀ x ∈ xs, x.length ≤ B) :
    Calls Tryd.prog 28 #[.slice A n c, .string ⟨sep.toArray⟩] w fun e w' => e = .returned (.string ⟨(Lib.join xs sep).toArray⟩) ∧ Below w.heap.size w w' := by
  have hl : xs.length = n := by have := hown.1; simp [svs] at this; omega
  have hlen := join_len sep B xs hx
  rcases hown.2 with ⟨hv, h0⟩ | ⟨g, cap, cur, hv, hb, hg, h1, h2, h3, h4⟩
  · injection hv with hA hn0 hc0
    subst hn0
    have : xs = [] := List.eq_nil_of_length_eq_zero hl
    subst this
    exact (Tryd.strings_Join_none A c ⟨sep.toArray⟩ w).mono fun e w' ⟨h1, h2⟩ => ⟨h1, h2 ▸ Below.refl _ _⟩
  · injection hv with hA _ hc
    subst hA hc
    have hlt : g < w.heap.size := by
      rcases Nat.lt_or_ge g w.heap.size with h' | h'
      · exact h'
      · rw [Array.getElem?_eq_none h'] at hg; cases hg
    have hm : ((xs.map fun x => (⟨x.toArray⟩ : ByteArray)).map (·.data.toList)) = xs := by
      rw [List.map_map]
      exact (List.map_congr_left (fun b _ => rfl)).trans (List.map_id xs)
    have key := Tryd.strings_Join g 0 c (xs.map fun x => (⟨x.toArray⟩ : ByteArray)) ⟨sep.toArray⟩ w (fun j x hj => by
      rw [List.getElem?_map] at hj
      cases hxj : xs[j]? with
      | none => rw [hxj] at hj; cases hj
      | some y =>
        rw [hxj] at hj
        injection hj with hj
        subst hj
        have := hown.cells (g := g) rfl j (sv y) (by simp [svs, hxj])
        rwa [add_plain] at this) hlt (by simp; omega) (by simp; omega) (by
        rw [hm]
        refine Nat.le_trans hlen ?_
        have : xs.length * (B + sep.length) ≤ 1000000 * 1000 := Nat.mul_le_mul (by omega) hB
        omega)
    rw [hm] at key
    simpa [hl] using key
set_option maxHeartbeats 1000000 in
theorem join_any (w : World) (lo hi : Nat) (A : Option Addr) (n c : Nat) (xs : List Nat) (h : AtI w lo hi A n xs) (hh : hi ≤ w.heap.size) (hn : n ≤ 1000) (hx : ∀ x ∈ xs, x < 65536) (hg : Glob w) :
    Calls Tryd.prog 90 #[.slice A n c] w fun e w' => e = .returned (.string ⟨(joinN xs).toArray⟩) ∧ Below w.heap.size w w' := by
  obtain ⟨i0, hi0, hz0, hz1, hz2⟩ := info_parts str_info
  have H := hide h
  have HG := hide hg
  have HX := hide hx
  clear h hg hx
  go_enter Tryd.func90, Tryd.ntmps90
  go_wp2
  go_loopw [3, 8] (fun v i wr => ∃ (k : Nat) (vv : Value), k ≤ n ∧ v = vv ∧ i = .int .i64 k ∧ wr.ownsRow w.heap.size 9 1 vv k (svs ((xs.take k).map (numeral 16))) ∧ Below w.heap.size w wr) (fun _ i _ => n - (intOf i).toNat)
  case atStart => exact ⟨0, _, Nat.zero_le _, rfl, rfl, by simpa [svs] using World.ownsRow_nil _ _ _ _, Below.refl _ _⟩
  case round =>
    obtain ⟨k, vv, hk, rfl, rfl, hown, hbel⟩ := hrel
    obtain ⟨A2, c2, rfl, hc2, _⟩ := own_shape hown
    have HO := hide hown
    have HBL := hide hbel
    have hsz := hbel.size
    clear hown hbel
    by_cases hlt : k < n
    · obtain ⟨b, o, x, rfl, hu, hcell⟩ := (H.out.below HBL.out hh).at_ hlt
      have HU := hide hu
      have HXX := hide (HX.out x (List.mem_of_getElem? hu))
      clear hu
      go_wp2_with (first
        | (go_at_call 99; refine (fmt16_any _ x HXX.out (HG.out.below HBL.out)).mono ?_; rintro e w1 ⟨rfl, hb1⟩; have HB1 := hide hb1; have hz1 := hb1.size; have HO1 := hide (HO.out.kept (grown_of_below hb1 none) (by rcases A2 with _ | a; exact .inl rfl; exact .inr (by simp [Value.ownBlock]))); clear hb1)
        | (at_builtin; go_must (refine wpList_append_str rfl (.tmp 12) (.tmp 15) rfl w.heap.size _ k _ rfl (HO1.out.alloc _) w1.heap.size _ (numeral 16 x) rfl (Blk.new w1 _ _) (by omega) (by simp; omega) ?_); intro v2 w2 hown2 hg2; have HO2 := hide hown2; have HG2 := hide hg2; clear hown2 hg2))
      go_roundw
      case rel =>
        refine ⟨k + 1, _, by omega, rfl, by go_num, ?_, ((below_step HBL.out HB1.out (Nat.le_refl _)).alloc (by omega) _).grown HG2.out (by simp; omega) (fun g hg => (HO.out.lt g hg).1)⟩
        have e : (xs.take (k + 1)).map (numeral 16) = (xs.take k).map (numeral 16) ++ [numeral 16 x] := by
          rw [List.take_add_one, HU.out]
          simp
        rw [e]
        exact HO2.out
      case measure => simp [intOf]; omega
    · obtain rfl : k = n := by omega
      have hxk : (xs.take k).map (numeral 16) = xs.map (numeral 16) := by rw [List.take_of_length_le (by rw [H.out.len]; exact Nat.le_refl _)]
      have HXK := hide hxk
      clear hxk
      have HLN : Hid (∀ y ∈ xs.map (numeral 16), y.length ≤ 4) := by
        intro y hy
        obtain ⟨x, hx, rfl⟩ := List.mem_map.1 hy
        exact numeral_len (by decide) 3 x (HX.out x hx)
      go_wp2_with (go_at_call 28; go_must (refine (joined_any _ w.heap.size _ _ _ (xs.map (numeral 16)) [58] (by rw [← HXK.out]; exact HO.out) (by omega) 4 (by decide) HLN.out).mono ?_); rintro e w1 ⟨rfl, hb1⟩)
      go_ret
      exact ⟨rfl, below_step HBL.out hb1 (Nat.le_refl _)⟩
end Go.Proofs.YthhmplmkdakmgaaDoor
