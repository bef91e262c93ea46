/-
  What the document's own Kind, Bytes and Read of layer 4 do, in whatever memory. No condition beyond sizes that fit memory.
  What the document's own Set of layer 4 does, in whatever memory. No condition beyond sizes that fit memory.
-/
import Derived.Test.YtfpidnckmdiieaaGreatDoorComRows
import Derived.Test.YtfpidnckmdiieaaGreatDoorCRefs
namespace Go.Proofs.YtfpidnckmdiieaaGreatDoor
open Go.RowKit
set_option linter.unusedVariables false
set_option linter.unusedSimpArgs false

/-- the cases, as the document asks them -/
theorem kd_split2 (e : List UInt8) : ∃ z0 z1 z6 z7 : Int, z0 = (nth e 0 : Nat) ∧ z1 = (nth e 1 : Nat) ∧ z6 = (nth e 6 : Nat) ∧ z7 = (nth e 7 : Nat) ∧
    ((z1 = 2 ∧ decide (z0 ≤ 2) = true ∧ kdX e = 1) ∨ (z1 = 11 ∧ z0 = 1 ∧ kdX e = 2) ∨ (z1 = 9 ∧ z0 = 2 ∧ z6 = 0 ∧ z7 = 0 ∧ kdX e = 3) ∨
     (z1 = 2 ∧ decide (z0 ≤ 2) = false ∧ (z0 == 1) = false ∧ (z0 == 2) = false ∧ kdX e = 0) ∨
     ((z1 == 2) = false ∧ z0 = 1 ∧ (z1 == 11) = false ∧ kdX e = 0) ∨
     ((z1 == 2) = false ∧ z0 = 2 ∧ (z1 == 9) = false ∧ kdX e = 0) ∨
     (z1 = 9 ∧ z0 = 2 ∧ (z6 == 0) = false ∧ kdX e = 0) ∨ (z1 = 9 ∧ z0 = 2 ∧ z6 = 0 ∧ (z7 == 0) = false ∧ kdX e = 0) ∨
     ((z1 == 2) = false ∧ (z0 == 1) = false ∧ (z0 == 2) = false ∧ kdX e = 0)) := by
  refine ⟨_, _, _, _, rfl, rfl, rfl, rfl, ?_⟩
  unfold kdX
  generalize nth e 0 = a
  generalize nth e 1 = b
  generalize nth e 6 = c
  generalize nth e 7 = d
  by_cases b2 : b = 2
  · by_cases a2 : a ≤ 2
    · exact .inl ⟨by omega, decide_eq_true (by omega), by rw [if_pos ⟨b2, a2⟩]⟩
    · exact .inr (.inr (.inr (.inl ⟨by omega, decide_eq_false (by omega), beq_eq_false_iff_ne.2 (by omega), beq_eq_false_iff_ne.2 (by omega), by rw [if_neg (by omega), if_neg (by omega), if_neg (by omega)]⟩)))
  by_cases a1 : a = 1
  · by_cases b11 : b = 11
    · exact .inr (.inl ⟨by omega, by omega, by rw [if_neg (by omega), if_pos ⟨b11, a1⟩]⟩)
    · exact .inr (.inr (.inr (.inr (.inl ⟨beq_eq_false_iff_ne.2 (by omega), by omega, beq_eq_false_iff_ne.2 (by omega), by rw [if_neg (by omega), if_neg (by omega), if_neg (by omega)]⟩))))
  by_cases a2 : a = 2
  · by_cases b9 : b = 9
    · by_cases c0 : c = 0
      · by_cases d0 : d = 0
        · exact .inr (.inr (.inl ⟨by omega, by omega, by omega, by omega, by rw [if_neg (by omega), if_neg (by omega), if_pos ⟨b9, a2, c0, d0⟩]⟩))
        · exact .inr (.inr (.inr (.inr (.inr (.inr (.inr (.inl ⟨by omega, by omega, by omega, beq_eq_false_iff_ne.2 (by omega), by rw [if_neg (by omega), if_neg (by omega), if_neg (by omega)]⟩)))))))
      · exact .inr (.inr (.inr (.inr (.inr (.inr (.inl ⟨by omega, by omega, beq_eq_false_iff_ne.2 (by omega), by rw [if_neg (by omega), if_neg (by omega), if_neg (by omega)]⟩))))))
    · exact .inr (.inr (.inr (.inr (.inr (.inl ⟨beq_eq_false_iff_ne.2 (by omega), by omega, beq_eq_false_iff_ne.2 (by omega), by rw [if_neg (by omega), if_neg (by omega), if_neg (by omega)]⟩)))))
  · exact .inr (.inr (.inr (.inr (.inr (.inr (.inr (.inr ⟨beq_eq_false_iff_ne.2 (by omega), beq_eq_false_iff_ne.2 (by omega), beq_eq_false_iff_ne.2 (by omega), by rw [if_neg (by omega), if_neg (by omega), if_neg (by omega)]⟩)))))))

set_option maxRecDepth 20000 in
set_option maxHeartbeats 2000000 in
theorem refkind_any (w : World) (e : List UInt8) (hl : e.length = 8) :
    Calls Tryz.prog 14 #[.agg (rdC e)] w fun x w' => x = .returned (.int .i64 (kdX e : Nat)) ∧ Below w.heap.size w w' := by
  have c0 := rdC_nth hl (i := 0) (by omega)
  have c1 := rdC_nth hl (i := 1) (by omega)
  have c6 := rdC_nth hl (i := 6) (by omega)
  have c7 := rdC_nth hl (i := 7) (by omega)
  obtain ⟨z0, z1, z6, z7, h0, h1, h6, h7, hk⟩ := kd_split2 e
  rw [← h0] at c0
  rw [← h1] at c1
  rw [← h6] at c6
  rw [← h7] at c7
  generalize kdX e = K at hk ⊢
  clear h0 h1 h6 h7
  rcases hk with ⟨rfl, a, rfl⟩ | ⟨rfl, rfl, rfl⟩ | ⟨rfl, rfl, rfl, rfl, rfl⟩ | ⟨rfl, a, b, c, rfl⟩ | ⟨a, rfl, b, rfl⟩ | ⟨a, rfl, b, rfl⟩ | ⟨rfl, rfl, a, rfl⟩ | ⟨rfl, rfl, rfl, a, rfl⟩ | ⟨a, b, c, rfl⟩
  all_goals
    go_enter Tryz.func14, Tryz.ntmps14
    go_wp2_with fail
    go_ret
    exact ⟨rfl, (Below.refl _ _).alloc (Nat.le_refl _) _⟩

set_option maxRecDepth 20000 in
set_option maxHeartbeats 2000000 in
theorem refbytes8_any (w : World) (lo hi : Nat) (A : Option Addr) (n c : Nat) (xs : List B8) (h : AtE w lo hi A n xs) (hh : hi ≤ w.heap.size) (hn : n * 8 ≤ 140737488355328) :
    Calls Tryz.prog 26 #[.slice A n c] w fun e w' => ∃ v, e = .returned v ∧ w'.ownsRow w.heap.size 5 1 v (n * 8) (bvs (flat8 xs)) ∧ Below w.heap.size w w' := by
  obtain ⟨i0, hi0, hz0, hz1, hz2⟩ := info_parts u8_info
  have H := hide h
  have HXL := hide h.len
  clear h
  go_enter Tryz.func26, Tryz.ntmps26
  go_wp2_with fail
  go_loopw [3, 4] (fun v i wr => ∃ (k c3 : Nat) (B : Option Addr), k ≤ n ∧ v = .slice B (k * 8) c3 ∧ i = .int .i64 k ∧ wr.ownsRow w.heap.size 5 1 (.slice B (k * 8) c3) (k * 8) (bvs (flat8 (xs.take k))) ∧ Below w.heap.size w wr) (fun _ i _ => n - (intOf i).toNat)
  case atStart => exact ⟨0, 0, none, Nat.zero_le _, by rw [Nat.zero_mul], rfl, by rw [Nat.zero_mul]; exact World.ownsRow_nil _ _ _ _, Below.refl _ _⟩
  case round =>
    obtain ⟨k, c3, B, hk, rfl, rfl, hown, hbel⟩ := hrel
    have HO := hide hown
    have WB := hide hbel
    clear hown hbel
    by_cases hlt : k < n
    · have Yr := hide (H.out.keep (w' := wr) fun p _ hp => WB.out.cell (p := p) (by omega))
      obtain ⟨b, o, x, rfl, hb1, hb2, hx, hat⟩ := Yr.out.at_ hlt
      have HX := hide hx
      have HE2 : Hid (x.1.length = 8) := hide x.2
      have HAT := hide hat
      clear hx hat
      have hsz := WB.out.size
      go_wp2_with (first
        | ((with_reducible refine wpList_load_elem ?_ (.tmp 14) rfl rfl HAT.out ?_); · rfl)
        | (refine wpList_store_ext rfl (.tmp 5) (.tmp 15) rfl wr.heap.size rfl (bs := x.1) rfl HE2.out (Blk.new wr _ _) rfl ?_; intro w2 hb2 hg2; have B2 := hide hb2; have W2 : Hid (Below wr.heap.size wr w2) := ((Below.refl _ _).alloc (Nat.le_refl _) _).grown hg2 (by simp) (fun q hq => by injection hq with hq; omega); have HO2 := hide (own_over HO.out W2.out); clear hb2 hg2)
        | (at_builtin; go_must (refine wpList_append_bytes _ rfl (.tmp 16) (.tmp 17) 39 rfl w.heap.size 5 i0 Tryz.underlying39 hi0 hz0 hz1 hz2 (.slice B (k * 8) c3) (k * 8) (flat8 (xs.take k)) rfl HO2.out _ _ (some ⟨wr.heap.size, 0, none⟩) 8 8 x.1 rfl (At.rd B2.out HE2.out) (by omega) (by have := W2.out.size; omega) ?_); intro v1 w3 hown1 hg3 hat3; rw [flat8_next HX.out, show k * 8 + 8 = (k + 1) * 8 by omega] at hown1; have HO1 := hide hown1; have HG3 := hide hg3; clear hown1 hg3 hat3))
      obtain ⟨A3, c4, rfl, _, _⟩ := own_shape HO1.out
      go_roundw
      case rel => exact ⟨k + 1, c4, A3, by omega, rfl, by go_num, HO1.out, (below_step WB.out W2.out (by omega)).grown HG3.out (by have := W2.out.size; omega) (fun g hg => (HO2.out.lt g hg).1)⟩
      case measure => simp [intOf]; omega
    · have hkn : k = n := by omega
      subst hkn
      go_wp2
      go_ret
      exact ⟨_, rfl, by have h := HO.out; rw [List.take_of_length_le (by rw [HXL.out]; exact Nat.le_refl _)] at h; exact h, WB.out⟩

theorem At.piece8 {w : World} {lo hi b o n c k : Nat} {bs : List UInt8} (h : At w lo hi (some ⟨b, o, none⟩) n bs) (hk : k * 8 + 8 ≤ n) : At w lo hi (some ⟨b, o + k * 8, none⟩) 8 ((bs.drop (k * 8)).take 8) := by
  refine ⟨by rw [List.length_take, List.length_drop, h.len]; omega, fun _ => ?_⟩
  obtain ⟨b', o', e, h1, h2, hc⟩ := h.2 (by omega)
  injection e with e
  injection e with e1 e2
  subst e1 e2
  refine ⟨b, o + k * 8, rfl, h1, h2, fun j u hu => ?_⟩
  rw [List.getElem?_take] at hu
  split at hu
  · rw [List.getElem?_drop] at hu
    have := hc _ _ hu
    rwa [show o + (k * 8 + j) = o + k * 8 + j by omega] at this
  · cases hu
set_option maxRecDepth 20000 in
set_option maxHeartbeats 3000000 in
theorem refread8_any (w : World) (lo hi : Nat) (A : Option Addr) (n c : Nat) (bs : List UInt8) (h : At w lo hi A n bs) (hh : hi ≤ w.heap.size) (hn : n ≤ 140737488355312) (hnc : n ≤ c) (hcc : c ≤ 140737488355328) :
    Calls Tryz.prog 22 #[.slice A n c] w fun e w' => ∃ v, e = .returned (.tuple #[v, .int .i64 (rowE bs)]) ∧ w'.ownsRow w.heap.size 23 8 v (rowL bs).length (bvs (flat8 (rowL bs))) ∧ Below w.heap.size w w' := by
  have H := hide h
  have HNL := hide h.len
  clear h
  have hqr : (n : Int).tmod 8 = (n : Int) % 8 := by rw [Int.tmod_eq_emod_of_nonneg (by omega)]
  by_cases h8 : n % 8 = 0
  · have hI : ((n : Int) % 8 != 0) = false := by rw [show (n : Int) % 8 = 0 by omega]; rfl
    have HV : Hid (rowL bs = chunks (n / 8) bs ∧ rowE bs = 0) := hide (by unfold rowL rowE; rw [HNL.out, if_pos h8, if_pos h8]; exact ⟨rfl, rfl⟩)
    go_enter Tryz.func22, Tryz.ntmps22
    go_wp2_with fail
    go_loopw [4, 5] (fun v i wr => ∃ (k cc : Nat) (B : Option Addr), k * 8 ≤ n ∧ v = .slice B k cc ∧ i = .int .i64 ((k * 8 : Nat) : Int) ∧ wr.ownsRow w.heap.size 23 8 (.slice B k cc) k (bvs (flat8 (chunks k bs))) ∧ Below w.heap.size w wr) (fun _ i _ => n - (intOf i).toNat)
    case atStart => exact ⟨0, 0, none, by omega, rfl, rfl, World.ownsRow_nil _ _ _ _, Below.refl _ _⟩
    case round =>
      obtain ⟨k, cc, B, hk, rfl, rfl, hown, hbel⟩ := hrel
      have HO := hide hown
      have WB := hide hbel
      have hsz := hbel.size
      clear hown hbel
      by_cases hlt : k * 8 < n
      · have Yr := hide (H.out.keep (w' := wr) fun p _ hp => WB.out.cell (p := p) (by omega))
        obtain ⟨b, o, u, rfl, _, _⟩ := Yr.out.at_ (k := 0) (by omega)
        have HP := hide (Yr.out.piece8 (c := c) (k := k) (by omega))
        have HT8 : Hid ((pad8 ((bs.drop (k * 8)).take 8)).length = 8) := hide (pad8_len _)
        go_wp2_with fail
        refine (refxof_any wr lo hi _ 8 (c - k * 8) _ HP.out (by omega) (by omega)).mono ?_
        rintro x w3 ⟨rfl, hb3⟩
        have hb4 := hb3.alloc hb3.size (.cells (bvs (pad8 ((bs.drop (k * 8)).take 8))).toArray 23)
        have HO4 := hide (ownN_over HO.out hb4)
        have WB4 := hide (below_step WB.out hb4 (Nat.le_refl _))
        have hsz4 := WB4.out.size
        clear hb3 hb4
        go_wp2_with (first
          | ((refine wpList_build1 ?_ (.tmp 22) rfl (xs := pad8 ((bs.drop (k * 8)).take 8)) rfl HT8.out ?_); · rfl)
          | (at_builtin; go_must (refine wpList_append_exts _ rfl (.tmp 16) (.tmp 23) rfl w.heap.size (.slice B k cc) k (chunks k bs) rfl HO4.out _ _ (some ⟨w3.heap.size, 0, none⟩) 1 1 [full8 ((bs.drop (k * 8)).take 8)] rfl (at_one8 _ _ (full8 ((bs.drop (k * 8)).take 8))) (by omega) hsz4 ?_); intro v5 w5 hown5 hg5 hat5; rw [← chunks_succ] at hown5; have HO5 := hide hown5; have HG5 := hide hg5; clear hown5 hg5 hat5))
        obtain ⟨A5, c5, rfl, _, _⟩ := own8_shape HO5.out
        go_roundw
        case rel => exact ⟨k + 1, c5, A5, by omega, rfl, by go_num, HO5.out, WB4.out.grown HG5.out hsz4 (fun q hq => (HO4.out.lt q hq).1)⟩
        case measure => simp [intOf]; omega
      · have hkn : k = n / 8 := by omega
        have hnlt : ¬ ((k * 8 : Nat) : Int) < n := by omega
        go_wp2_with fail
        go_ret2
        exact ⟨.slice B (n / 8) cc, by rw [HV.out.2]; rfl, by have h := HO.out; rw [hkn] at h; rw [HV.out.1, chunks_len]; exact h, WB.out⟩
  · have hI : ((n : Int) % 8 != 0) = true := by simp; omega
    have HV : Hid (rowL bs = [] ∧ rowE bs = 4) := hide (by unfold rowL rowE; rw [HNL.out, if_neg h8, if_neg h8]; exact ⟨rfl, rfl⟩)
    go_enter Tryz.func22, Tryz.ntmps22
    go_wp2_with fail
    go_ret2
    exact ⟨.slice none 0 0, by rw [HV.out.2]; rfl, by rw [HV.out.1]; exact World.ownsRow_nil _ _ _ _, Below.refl _ _⟩
/-! ### what two have in common -/
def MtS (w u : World) (lo hi lo' hi' b o b' o' n n' : Nat) (xs ys : List B8) : Prop := (AtE u lo hi (some ⟨b, o, none⟩) n xs ∧ hi ≤ w.heap.size) ∧ (AtE u lo' hi' (some ⟨b', o', none⟩) n' ys ∧ hi' ≤ w.heap.size) ∧ Below w.heap.size w u
section
variable {w u v : World} {lo hi lo' hi' b o b' o' n n' : Nat} {xs ys : List B8}
theorem MtS.xa (h : MtS w u lo hi lo' hi' b o b' o' n n' xs ys) : AtE u lo hi (some ⟨b, o, none⟩) n xs := h.1.1
theorem MtS.yb (h : MtS w u lo hi lo' hi' b o b' o' n n' xs ys) : AtE u lo' hi' (some ⟨b', o', none⟩) n' ys := h.2.1.1
theorem MtS.bel (h : MtS w u lo hi lo' hi' b o b' o' n n' xs ys) : Below w.heap.size w u := h.2.2
theorem MtS.drew (h : MtS w u lo hi lo' hi' b o b' o' n n' xs ys) : MtS w u.drew lo hi lo' hi' b o b' o' n n' xs ys := ⟨⟨h.xa.drew, h.1.2⟩, ⟨h.yb.drew, h.2.1.2⟩, below_drew h.bel⟩
theorem MtS.on (h : MtS w u lo hi lo' hi' b o b' o' n n' xs ys) (hb : Below u.heap.size u v) : MtS w v lo hi lo' hi' b o b' o' n n' xs ys :=
  ⟨⟨h.xa.keep fun p _ hp => hb.cell (p := p) (by have h1 := h.1.2; have h2 := h.bel.size; omega), h.1.2⟩, ⟨h.yb.keep fun p _ hp => hb.cell (p := p) (by have h1 := h.2.1.2; have h2 := h.bel.size; omega), h.2.1.2⟩, below_step h.bel hb (Nat.le_refl _)⟩
end
theorem meetL_none {xs ys : List B8} (h : ∀ j e, j < xs.length → xs[j]? = some e → ¬ (e ∈ ys ∧ kdX e.1 = 1)) : meetL xs ys = false := by
  unfold meetL
  rw [List.any_eq_false]
  intro e he hd
  obtain ⟨hx, hk⟩ := of_decide_eq_true hd
  obtain ⟨j, hj, hje⟩ := List.getElem_of_mem hx
  exact h j e hj (by rw [List.getElem?_eq_getElem hj, hje]) ⟨he, hk⟩

set_option maxRecDepth 20000 in
set_option maxHeartbeats 3000000 in
theorem refmeet_any (w : World) (lo hi lo' hi' : Nat) (A A' : Option Addr) (n c n' c' : Nat) (xs ys : List B8) (h : AtE w lo hi A n xs) (h' : AtE w lo' hi' A' n' ys) (hh : hi ≤ w.heap.size) (hh' : hi' ≤ w.heap.size) (hn : n ≤ 1000000000000) (hn' : n' ≤ 1000000000000) :
    Calls Tryz.prog 28 #[.slice A n c, .slice A' n' c'] w fun e w' => e = .returned (.bool (meetL xs ys)) ∧ Below w.heap.size w w' := by
  have H := hide h
  have H' := hide h'
  have HXL := hide h.len
  have HYL := hide h'.len
  clear h h'
  go_enter Tryz.func28, Tryz.ntmps28
  go_wp2_with fail
  go_loopg [5] n (fun gg s5 wr => ∃ i : Nat, s5 = .int .i64 i ∧ i ≤ n ∧ n - i ≤ gg ∧ Below w.heap.size w wr ∧ ∀ j e, j < i → xs[j]? = some e → ¬ (e ∈ ys ∧ kdX e.1 = 1))
  case atStart => exact ⟨0, rfl, Nat.zero_le _, by omega, Below.refl _ _, fun j e hj => absurd hj (by omega)⟩
  case round =>
    obtain ⟨i, rfl, hi1, hg, hbel, hall⟩ := hrel
    have WB0 := hide hbel
    have HALL := hide hall
    clear hbel hall
    by_cases hlt : i < n
    · have Xr0 := hide (H.out.keep (w' := wr) fun p _ hp => WB0.out.cell (p := p) (by omega))
      obtain ⟨b, o, x, rfl, _, _, hx, _⟩ := Xr0.out.at_ hlt
      have HX := hide hx
      have HKN : Hid (kdX x.1 = 1 ∨ kdX x.1 ≠ 1) := hide (by omega)
      clear hx
      go_wp2_with fail
      go_loopg [6] n' (fun gg s6 wq => ∃ k : Nat, s6 = .int .i64 k ∧ k ≤ n' ∧ n' - k ≤ gg ∧ Below w.heap.size w wq ∧ ∀ j, j < k → ys[j]? = some x → kdX x.1 ≠ 1)
      case atStart => exact ⟨0, rfl, Nat.zero_le _, by omega, WB0.out, fun j hj => absurd hj (by omega)⟩
      case round =>
        obtain ⟨k, rfl, hk, hg2, hbel, hall⟩ := hrel
        have WB := hide hbel
        have HA := hide hall
        clear hbel hall
        by_cases hlt2 : k < n'
        · have Xr := hide (H.out.keep (w' := wr) fun p _ hp => WB.out.cell (p := p) (by omega))
          have Yr := hide (H'.out.keep (w' := wr) fun p _ hp => WB.out.cell (p := p) (by omega))
          obtain ⟨b', o', y, rfl, _, _, hy, _⟩ := Yr.out.at_ hlt2
          have HY := hide hy
          clear hy
          have S0 : Hid (MtS w wr lo hi lo' hi' b o b' o' n n' xs ys) := hide ⟨⟨Xr.out, hh⟩, ⟨Yr.out, hh'⟩, WB.out⟩
          have hiI : ((i : Nat) : Int) < n := by omega
          have hkI : ((k : Nat) : Int) < n' := by omega
          by_cases hxy : x = y
          · subst hxy
            have HQ : Hid ((x.1 == x.1) = true) := hide (by simp)
            rcases HKN.out with hk1 | hk1
            · have HK1 : Hid (((kdX x.1 : Nat) : Int) = 1) := hide (by rw [hk1]; rfl)
              have HK2 := hide hk1
              clear hk1
              go_wp2_with fail
              refine wp_region_held_drew (S := fun u => MtS w u lo hi lo' hi' b o b' o' n n' xs ys) (by kernel_rfl) S0.out.drew (fun hHeld => ?_)
              refine region_take (i := 0) (v := ?_) rfl (by kernel_rfl) (by kernel_rfl) (by kernel_rfl) (fun _ _ _ h => h) (Or.inl ⟨by rfl, ?_⟩) (by assumption) ?_
              rotate_left
              · (intro w' hSw; (try dsimp only at hSw); go_simp <;> with_reducible rfl)
              simp only [Act.put, List.setIfInBounds_toArray, List.set_cons_zero, List.set_cons_succ]
              refine region_take (i := 1) (v := ?_) rfl (by kernel_rfl) (by kernel_rfl) (by kernel_rfl) (fun _ _ _ h => h) (Or.inl ⟨by rfl, ?_⟩) (by assumption) ?_
              rotate_left
              · (intro w' hSw; (try dsimp only at hSw); go_simp <;> with_reducible rfl)
              simp only [Act.put, List.setIfInBounds_toArray, List.set_cons_zero, List.set_cons_succ]
              refine region_take (i := 2) (v := ?_) rfl (by kernel_rfl) (by kernel_rfl) (by kernel_rfl) (fun _ _ _ h => h) (Or.inl ⟨by rfl, ?_⟩) (by assumption) ?_
              rotate_left
              · (intro w' hSw; (try dsimp only at hSw); go_simp <;> with_reducible rfl)
              simp only [Act.put, List.setIfInBounds_toArray, List.set_cons_zero, List.set_cons_succ]
              refine region_take (i := 3) (v := (.agg (rdC x.1))) rfl (by kernel_rfl) (by kernel_rfl) (by kernel_rfl) (fun _ _ _ h => h) (Or.inl ⟨by rfl, ?_⟩) (by assumption) ?_
              · (intro w' hSw; exact exec_load_elem (.tmp 21) rfl rfl (AtE.get (MtS.xa hSw) HX.out))
              simp only [Act.put, List.setIfInBounds_toArray, List.set_cons_zero, List.set_cons_succ]
              refine region_take (i := 4) (v := ?_) rfl (by kernel_rfl) (by kernel_rfl) (by kernel_rfl) (fun _ _ _ h => h) (Or.inl ⟨by rfl, ?_⟩) (by assumption) ?_
              rotate_left
              · (intro w' hSw; (try dsimp only at hSw); go_simp <;> with_reducible rfl)
              simp only [Act.put, List.setIfInBounds_toArray, List.set_cons_zero, List.set_cons_succ]
              refine region_take (i := 5) (v := ?_) rfl (by kernel_rfl) (by kernel_rfl) (by kernel_rfl) (fun _ _ _ h => h) (Or.inl ⟨by rfl, ?_⟩) (by assumption) ?_
              rotate_left
              · (intro w' hSw; (try dsimp only at hSw); go_simp <;> with_reducible rfl)
              simp only [Act.put, List.setIfInBounds_toArray, List.set_cons_zero, List.set_cons_succ]
              refine region_take (i := 6) (v := ?_) rfl (by kernel_rfl) (by kernel_rfl) (by kernel_rfl) (fun _ _ _ h => h) (Or.inl ⟨by rfl, ?_⟩) (by assumption) ?_
              rotate_left
              · (intro w' hSw; (try dsimp only at hSw); go_simp <;> with_reducible rfl)
              simp only [Act.put, List.setIfInBounds_toArray, List.set_cons_zero, List.set_cons_succ]
              refine region_take (i := 7) (v := (.agg (rdC x.1))) rfl (by kernel_rfl) (by kernel_rfl) (by kernel_rfl) (fun _ _ _ h => h) (Or.inl ⟨by rfl, ?_⟩) (by assumption) ?_
              · (intro w' hSw; exact exec_load_elem (.tmp 25) rfl rfl (AtE.get (MtS.yb hSw) HY.out))
              simp only [Act.put, List.setIfInBounds_toArray, List.set_cons_zero, List.set_cons_succ]
              refine region_take (i := 8) (v := (.bool true)) rfl (by kernel_rfl) (by kernel_rfl) (by kernel_rfl) (fun _ _ _ h => h) (Or.inl ⟨by rfl, ?_⟩) (by assumption) ?_
              · (intro w' hSw; exact exec_eql_ext (.tmp 22) (.tmp 26) rfl rfl rfl x.2 x.2 HQ.out)
              simp only [Act.put, List.setIfInBounds_toArray, List.set_cons_zero, List.set_cons_succ]
              refine region_take (i := 9) (v := ?_) rfl (by kernel_rfl) (by kernel_rfl) (by kernel_rfl) (fun _ _ _ h => h) (Or.inl ⟨by rfl, ?_⟩) (by assumption) ?_
              rotate_left
              · (intro w' hSw; (try dsimp only at hSw); go_simp <;> with_reducible rfl)
              simp only [Act.put, List.setIfInBounds_toArray, List.set_cons_zero, List.set_cons_succ]
              refine region_take (i := 10) (v := ?_) rfl (by kernel_rfl) (by kernel_rfl) (by kernel_rfl) (fun _ _ _ h => h) (Or.inl ⟨by rfl, ?_⟩) (by assumption) ?_
              rotate_left
              · (intro w' hSw; (try dsimp only at hSw); go_simp <;> with_reducible rfl)
              simp only [Act.put, List.setIfInBounds_toArray, List.set_cons_zero, List.set_cons_succ]
              refine region_take (i := 11) (v := ?_) rfl (by kernel_rfl) (by kernel_rfl) (by kernel_rfl) (fun _ _ _ h => h) (Or.inl ⟨by rfl, ?_⟩) (by assumption) ?_
              rotate_left
              · (intro w' hSw; (try dsimp only at hSw); go_simp <;> with_reducible rfl)
              simp only [Act.put, List.setIfInBounds_toArray, List.set_cons_zero, List.set_cons_succ]
              refine region_take (i := 12) (v := ?_) rfl (by kernel_rfl) (by kernel_rfl) (by kernel_rfl) (fun _ _ _ h => h) (Or.inl ⟨by rfl, ?_⟩) (by assumption) ?_
              rotate_left
              · (intro w' hSw; (try dsimp only at hSw); go_simp <;> with_reducible rfl)
              simp only [Act.put, List.setIfInBounds_toArray, List.set_cons_zero, List.set_cons_succ]
              refine region_take (i := 13) (v := (.agg (rdC x.1))) rfl (by kernel_rfl) (by kernel_rfl) (by kernel_rfl) (fun _ _ _ h => h) (Or.inl ⟨by rfl, ?_⟩) (by assumption) ?_
              · (intro w' hSw; exact exec_load_elem (.tmp 31) rfl rfl (AtE.get (MtS.xa hSw) HX.out))
              simp only [Act.put, List.setIfInBounds_toArray, List.set_cons_zero, List.set_cons_succ]
              refine region_call (i := 14) rfl (by kernel_rfl) (by rfl) (refkind_any _ x.1 x.2) (fun w => by kernel_rfl) ?_
              rintro z w7 ⟨rfl, hb7⟩; rw [HK1.out]; have S7 := hide (S0.out.drew.on hb7); clear hb7
              refine ⟨_, rfl, S7.out, fun hHeld => ?_⟩
              simp only [Act.put, List.setIfInBounds_toArray, List.set_cons_zero, List.set_cons_succ]
              refine region_take (i := 15) (v := ?_) rfl (by kernel_rfl) (by kernel_rfl) (by kernel_rfl) (fun _ _ _ h => h) (Or.inl ⟨by rfl, ?_⟩) (by assumption) ?_
              rotate_left
              · (intro w' hSw; (try dsimp only at hSw); go_simp <;> with_reducible rfl)
              simp only [Act.put, List.setIfInBounds_toArray, List.set_cons_zero, List.set_cons_succ]
              refine region_take (i := 16) (v := ?_) rfl (by kernel_rfl) (by kernel_rfl) (by kernel_rfl) (fun _ _ _ h => h) (Or.inl ⟨by rfl, ?_⟩) (by assumption) ?_
              rotate_left
              · (intro w' hSw; (try dsimp only at hSw); go_simp <;> with_reducible rfl)
              simp only [Act.put, List.setIfInBounds_toArray, List.set_cons_zero, List.set_cons_succ]
              refine wpAnyH_done (by kernel_rfl) ?_ _
              go_wp2_with fail
              go_ret
              exact ⟨by rw [meetL_true HY.out ⟨List.mem_of_getElem? HX.out, HK2.out⟩]; rfl, hHeld.bel⟩
            · have HK2 := hide hk1
              obtain ⟨K, hK⟩ : ∃ K : Int, (kdX x.1 : Int) = K := ⟨_, rfl⟩
              have hne : (K == 1) = false := beq_eq_false_iff_ne.2 (by omega)
              have HK1 := hide hK
              clear hk1 hK
              go_wp2_with fail
              refine wp_region_held_drew (S := fun u => MtS w u lo hi lo' hi' b o b' o' n n' xs ys) (by kernel_rfl) S0.out.drew (fun hHeld => ?_)
              refine region_take (i := 0) (v := ?_) rfl (by kernel_rfl) (by kernel_rfl) (by kernel_rfl) (fun _ _ _ h => h) (Or.inl ⟨by rfl, ?_⟩) (by assumption) ?_
              rotate_left
              · (intro w' hSw; (try dsimp only at hSw); go_simp <;> with_reducible rfl)
              simp only [Act.put, List.setIfInBounds_toArray, List.set_cons_zero, List.set_cons_succ]
              refine region_take (i := 1) (v := ?_) rfl (by kernel_rfl) (by kernel_rfl) (by kernel_rfl) (fun _ _ _ h => h) (Or.inl ⟨by rfl, ?_⟩) (by assumption) ?_
              rotate_left
              · (intro w' hSw; (try dsimp only at hSw); go_simp <;> with_reducible rfl)
              simp only [Act.put, List.setIfInBounds_toArray, List.set_cons_zero, List.set_cons_succ]
              refine region_take (i := 2) (v := ?_) rfl (by kernel_rfl) (by kernel_rfl) (by kernel_rfl) (fun _ _ _ h => h) (Or.inl ⟨by rfl, ?_⟩) (by assumption) ?_
              rotate_left
              · (intro w' hSw; (try dsimp only at hSw); go_simp <;> with_reducible rfl)
              simp only [Act.put, List.setIfInBounds_toArray, List.set_cons_zero, List.set_cons_succ]
              refine region_take (i := 3) (v := (.agg (rdC x.1))) rfl (by kernel_rfl) (by kernel_rfl) (by kernel_rfl) (fun _ _ _ h => h) (Or.inl ⟨by rfl, ?_⟩) (by assumption) ?_
              · (intro w' hSw; exact exec_load_elem (.tmp 21) rfl rfl (AtE.get (MtS.xa hSw) HX.out))
              simp only [Act.put, List.setIfInBounds_toArray, List.set_cons_zero, List.set_cons_succ]
              refine region_take (i := 4) (v := ?_) rfl (by kernel_rfl) (by kernel_rfl) (by kernel_rfl) (fun _ _ _ h => h) (Or.inl ⟨by rfl, ?_⟩) (by assumption) ?_
              rotate_left
              · (intro w' hSw; (try dsimp only at hSw); go_simp <;> with_reducible rfl)
              simp only [Act.put, List.setIfInBounds_toArray, List.set_cons_zero, List.set_cons_succ]
              refine region_take (i := 5) (v := ?_) rfl (by kernel_rfl) (by kernel_rfl) (by kernel_rfl) (fun _ _ _ h => h) (Or.inl ⟨by rfl, ?_⟩) (by assumption) ?_
              rotate_left
              · (intro w' hSw; (try dsimp only at hSw); go_simp <;> with_reducible rfl)
              simp only [Act.put, List.setIfInBounds_toArray, List.set_cons_zero, List.set_cons_succ]
              refine region_take (i := 6) (v := ?_) rfl (by kernel_rfl) (by kernel_rfl) (by kernel_rfl) (fun _ _ _ h => h) (Or.inl ⟨by rfl, ?_⟩) (by assumption) ?_
              rotate_left
              · (intro w' hSw; (try dsimp only at hSw); go_simp <;> with_reducible rfl)
              simp only [Act.put, List.setIfInBounds_toArray, List.set_cons_zero, List.set_cons_succ]
              refine region_take (i := 7) (v := (.agg (rdC x.1))) rfl (by kernel_rfl) (by kernel_rfl) (by kernel_rfl) (fun _ _ _ h => h) (Or.inl ⟨by rfl, ?_⟩) (by assumption) ?_
              · (intro w' hSw; exact exec_load_elem (.tmp 25) rfl rfl (AtE.get (MtS.yb hSw) HY.out))
              simp only [Act.put, List.setIfInBounds_toArray, List.set_cons_zero, List.set_cons_succ]
              refine region_take (i := 8) (v := (.bool true)) rfl (by kernel_rfl) (by kernel_rfl) (by kernel_rfl) (fun _ _ _ h => h) (Or.inl ⟨by rfl, ?_⟩) (by assumption) ?_
              · (intro w' hSw; exact exec_eql_ext (.tmp 22) (.tmp 26) rfl rfl rfl x.2 x.2 HQ.out)
              simp only [Act.put, List.setIfInBounds_toArray, List.set_cons_zero, List.set_cons_succ]
              refine region_take (i := 9) (v := ?_) rfl (by kernel_rfl) (by kernel_rfl) (by kernel_rfl) (fun _ _ _ h => h) (Or.inl ⟨by rfl, ?_⟩) (by assumption) ?_
              rotate_left
              · (intro w' hSw; (try dsimp only at hSw); go_simp <;> with_reducible rfl)
              simp only [Act.put, List.setIfInBounds_toArray, List.set_cons_zero, List.set_cons_succ]
              refine region_take (i := 10) (v := ?_) rfl (by kernel_rfl) (by kernel_rfl) (by kernel_rfl) (fun _ _ _ h => h) (Or.inl ⟨by rfl, ?_⟩) (by assumption) ?_
              rotate_left
              · (intro w' hSw; (try dsimp only at hSw); go_simp <;> with_reducible rfl)
              simp only [Act.put, List.setIfInBounds_toArray, List.set_cons_zero, List.set_cons_succ]
              refine region_take (i := 11) (v := ?_) rfl (by kernel_rfl) (by kernel_rfl) (by kernel_rfl) (fun _ _ _ h => h) (Or.inl ⟨by rfl, ?_⟩) (by assumption) ?_
              rotate_left
              · (intro w' hSw; (try dsimp only at hSw); go_simp <;> with_reducible rfl)
              simp only [Act.put, List.setIfInBounds_toArray, List.set_cons_zero, List.set_cons_succ]
              refine region_take (i := 12) (v := ?_) rfl (by kernel_rfl) (by kernel_rfl) (by kernel_rfl) (fun _ _ _ h => h) (Or.inl ⟨by rfl, ?_⟩) (by assumption) ?_
              rotate_left
              · (intro w' hSw; (try dsimp only at hSw); go_simp <;> with_reducible rfl)
              simp only [Act.put, List.setIfInBounds_toArray, List.set_cons_zero, List.set_cons_succ]
              refine region_take (i := 13) (v := (.agg (rdC x.1))) rfl (by kernel_rfl) (by kernel_rfl) (by kernel_rfl) (fun _ _ _ h => h) (Or.inl ⟨by rfl, ?_⟩) (by assumption) ?_
              · (intro w' hSw; exact exec_load_elem (.tmp 31) rfl rfl (AtE.get (MtS.xa hSw) HX.out))
              simp only [Act.put, List.setIfInBounds_toArray, List.set_cons_zero, List.set_cons_succ]
              refine region_call (i := 14) rfl (by kernel_rfl) (by rfl) (refkind_any _ x.1 x.2) (fun w => by kernel_rfl) ?_
              rintro z w7 ⟨rfl, hb7⟩; rw [HK1.out]; have S7 := hide (S0.out.drew.on hb7); clear hb7
              refine ⟨_, rfl, S7.out, fun hHeld => ?_⟩
              simp only [Act.put, List.setIfInBounds_toArray, List.set_cons_zero, List.set_cons_succ]
              refine region_take (i := 15) (v := ?_) rfl (by kernel_rfl) (by kernel_rfl) (by kernel_rfl) (fun _ _ _ h => h) (Or.inl ⟨by rfl, ?_⟩) (by assumption) ?_
              rotate_left
              · (intro w' hSw; (try dsimp only at hSw); go_simp <;> with_reducible rfl)
              simp only [Act.put, List.setIfInBounds_toArray, List.set_cons_zero, List.set_cons_succ]
              refine region_take (i := 16) (v := ?_) rfl (by kernel_rfl) (by kernel_rfl) (by kernel_rfl) (fun _ _ _ h => h) (Or.inl ⟨by rfl, ?_⟩) (by assumption) ?_
              rotate_left
              · (intro w' hSw; (try dsimp only at hSw); go_simp <;> with_reducible rfl)
              simp only [Act.put, List.setIfInBounds_toArray, List.set_cons_zero, List.set_cons_succ]
              refine wpAnyH_done (by kernel_rfl) ?_ _
              go_wp2_with fail
              go_roundg (n' - (k + 1))
              case measure => omega
              case rel =>
                refine ⟨k + 1, by go_num, by omega, Nat.le_refl _, hHeld.bel, fun j hj hz => ?_⟩
                rcases Nat.lt_or_ge j k with h | h
                · exact HA.out j h hz
                · have : j = k := by omega
                  subst this
                  exact HK2.out
          · have HQ : Hid ((x.1 == y.1) = false) := hide (by
              have : x.1 ≠ y.1 := fun e => hxy (Subtype.ext e)
              simpa using this)
            have HXY := hide hxy
            clear hxy
            go_wp2_with fail
            refine wp_region_held_drew (S := fun u => MtS w u lo hi lo' hi' b o b' o' n n' xs ys) (by kernel_rfl) S0.out.drew (fun hHeld => ?_)
            refine region_take (i := 0) (v := ?_) rfl (by kernel_rfl) (by kernel_rfl) (by kernel_rfl) (fun _ _ _ h => h) (Or.inl ⟨by rfl, ?_⟩) (by assumption) ?_
            rotate_left
            · (intro w' hSw; (try dsimp only at hSw); go_simp <;> with_reducible rfl)
            simp only [Act.put, List.setIfInBounds_toArray, List.set_cons_zero, List.set_cons_succ]
            refine region_take (i := 1) (v := ?_) rfl (by kernel_rfl) (by kernel_rfl) (by kernel_rfl) (fun _ _ _ h => h) (Or.inl ⟨by rfl, ?_⟩) (by assumption) ?_
            rotate_left
            · (intro w' hSw; (try dsimp only at hSw); go_simp <;> with_reducible rfl)
            simp only [Act.put, List.setIfInBounds_toArray, List.set_cons_zero, List.set_cons_succ]
            refine region_take (i := 2) (v := ?_) rfl (by kernel_rfl) (by kernel_rfl) (by kernel_rfl) (fun _ _ _ h => h) (Or.inl ⟨by rfl, ?_⟩) (by assumption) ?_
            rotate_left
            · (intro w' hSw; (try dsimp only at hSw); go_simp <;> with_reducible rfl)
            simp only [Act.put, List.setIfInBounds_toArray, List.set_cons_zero, List.set_cons_succ]
            refine region_take (i := 3) (v := (.agg (rdC x.1))) rfl (by kernel_rfl) (by kernel_rfl) (by kernel_rfl) (fun _ _ _ h => h) (Or.inl ⟨by rfl, ?_⟩) (by assumption) ?_
            · (intro w' hSw; exact exec_load_elem (.tmp 21) rfl rfl (AtE.get (MtS.xa hSw) HX.out))
            simp only [Act.put, List.setIfInBounds_toArray, List.set_cons_zero, List.set_cons_succ]
            refine region_take (i := 4) (v := ?_) rfl (by kernel_rfl) (by kernel_rfl) (by kernel_rfl) (fun _ _ _ h => h) (Or.inl ⟨by rfl, ?_⟩) (by assumption) ?_
            rotate_left
            · (intro w' hSw; (try dsimp only at hSw); go_simp <;> with_reducible rfl)
            simp only [Act.put, List.setIfInBounds_toArray, List.set_cons_zero, List.set_cons_succ]
            refine region_take (i := 5) (v := ?_) rfl (by kernel_rfl) (by kernel_rfl) (by kernel_rfl) (fun _ _ _ h => h) (Or.inl ⟨by rfl, ?_⟩) (by assumption) ?_
            rotate_left
            · (intro w' hSw; (try dsimp only at hSw); go_simp <;> with_reducible rfl)
            simp only [Act.put, List.setIfInBounds_toArray, List.set_cons_zero, List.set_cons_succ]
            refine region_take (i := 6) (v := ?_) rfl (by kernel_rfl) (by kernel_rfl) (by kernel_rfl) (fun _ _ _ h => h) (Or.inl ⟨by rfl, ?_⟩) (by assumption) ?_
            rotate_left
            · (intro w' hSw; (try dsimp only at hSw); go_simp <;> with_reducible rfl)
            simp only [Act.put, List.setIfInBounds_toArray, List.set_cons_zero, List.set_cons_succ]
            refine region_take (i := 7) (v := (.agg (rdC y.1))) rfl (by kernel_rfl) (by kernel_rfl) (by kernel_rfl) (fun _ _ _ h => h) (Or.inl ⟨by rfl, ?_⟩) (by assumption) ?_
            · (intro w' hSw; exact exec_load_elem (.tmp 25) rfl rfl (AtE.get (MtS.yb hSw) HY.out))
            simp only [Act.put, List.setIfInBounds_toArray, List.set_cons_zero, List.set_cons_succ]
            refine region_take (i := 8) (v := (.bool false)) rfl (by kernel_rfl) (by kernel_rfl) (by kernel_rfl) (fun _ _ _ h => h) (Or.inl ⟨by rfl, ?_⟩) (by assumption) ?_
            · (intro w' hSw; exact exec_eql_ext (.tmp 22) (.tmp 26) rfl rfl rfl x.2 y.2 HQ.out)
            simp only [Act.put, List.setIfInBounds_toArray, List.set_cons_zero, List.set_cons_succ]
            refine region_take (i := 9) (v := ?_) rfl (by kernel_rfl) (by kernel_rfl) (by kernel_rfl) (fun _ _ _ h => h) (Or.inl ⟨by rfl, ?_⟩) (by assumption) ?_
            rotate_left
            · (intro w' hSw; (try dsimp only at hSw); go_simp <;> with_reducible rfl)
            simp only [Act.put, List.setIfInBounds_toArray, List.set_cons_zero, List.set_cons_succ]
            refine region_take (i := 10) (v := undef) rfl (by kernel_rfl) (by kernel_rfl) (by kernel_rfl) (fun _ _ _ h => h) (Or.inr ⟨by rfl, rfl⟩) (by assumption) ?_
            simp only [Act.put, List.setIfInBounds_toArray, List.set_cons_zero, List.set_cons_succ]
            refine region_take (i := 11) (v := undef) rfl (by kernel_rfl) (by kernel_rfl) (by kernel_rfl) (fun _ _ _ h => h) (Or.inr ⟨by rfl, rfl⟩) (by assumption) ?_
            simp only [Act.put, List.setIfInBounds_toArray, List.set_cons_zero, List.set_cons_succ]
            refine region_take (i := 12) (v := undef) rfl (by kernel_rfl) (by kernel_rfl) (by kernel_rfl) (fun _ _ _ h => h) (Or.inr ⟨by rfl, rfl⟩) (by assumption) ?_
            simp only [Act.put, List.setIfInBounds_toArray, List.set_cons_zero, List.set_cons_succ]
            refine region_take (i := 13) (v := undef) rfl (by kernel_rfl) (by kernel_rfl) (by kernel_rfl) (fun _ _ _ h => h) (Or.inr ⟨by rfl, rfl⟩) (by assumption) ?_
            simp only [Act.put, List.setIfInBounds_toArray, List.set_cons_zero, List.set_cons_succ]
            refine region_take (i := 14) (v := undef) rfl (by kernel_rfl) (by kernel_rfl) (by kernel_rfl) (fun _ _ _ h => h) (Or.inr ⟨by rfl, rfl⟩) (by assumption) ?_
            simp only [Act.put, List.setIfInBounds_toArray, List.set_cons_zero, List.set_cons_succ]
            refine region_take (i := 15) (v := undef) rfl (by kernel_rfl) (by kernel_rfl) (by kernel_rfl) (fun _ _ _ h => h) (Or.inr ⟨by rfl, rfl⟩) (by assumption) ?_
            simp only [Act.put, List.setIfInBounds_toArray, List.set_cons_zero, List.set_cons_succ]
            refine region_take (i := 16) (v := ?_) rfl (by kernel_rfl) (by kernel_rfl) (by kernel_rfl) (fun _ _ _ h => h) (Or.inl ⟨by rfl, ?_⟩) (by assumption) ?_
            rotate_left
            · (intro w' hSw; (try dsimp only at hSw); go_simp <;> with_reducible rfl)
            simp only [Act.put, List.setIfInBounds_toArray, List.set_cons_zero, List.set_cons_succ]
            refine wpAnyH_done (by kernel_rfl) ?_ _
            go_wp2_with fail
            go_roundg (n' - (k + 1))
            case measure => omega
            case rel =>
              refine ⟨k + 1, by go_num, by omega, Nat.le_refl _, hHeld.bel, fun j hj hz => ?_⟩
              rcases Nat.lt_or_ge j k with h | h
              · exact HA.out j h hz
              · have : j = k := by omega
                subst this
                rw [HY.out] at hz; injection hz with hz; exact absurd hz.symm HXY.out
        · have hkn : k = n' := by omega
          subst hkn
          go_wp2_with fail
          go_roundg (n - (i + 1))
          case measure => omega
          case rel =>
            refine ⟨i + 1, by go_num, by omega, Nat.le_refl _, WB.out, fun j z hj hz => ?_⟩
            rcases Nat.lt_or_ge j i with h | h
            · exact HALL.out j z h hz
            · have : j = i := by omega
              subst this
              rw [HX.out] at hz
              injection hz with hz
              subst hz
              rintro ⟨hm, hkk⟩
              obtain ⟨q, hq, hqe⟩ := List.getElem_of_mem hm
              exact HA.out q (by rw [← HYL.out]; exact hq) (by rw [List.getElem?_eq_getElem hq, hqe]) hkk
    · have hkn : i = n := by omega
      subst hkn
      go_wp2_with fail
      go_ret
      exact ⟨by rw [meetL_none (fun j e hj => HALL.out j e (by rw [← HXL.out]; exact hj))]; rfl, WB0.out⟩
end Go.Proofs.YtfpidnckmdiieaaGreatDoor
namespace Go.Proofs.YtfpidnckmdiieaaGreatDoor
open Go.RowKit
set_option linter.unusedVariables false
set_option linter.unusedSimpArgs false

theorem exec_txt8 {o : Oper} {a : Act} {w : World} (x : Operand) (ho : o.op = .convert 39 9 x) {lo hi n c : Nat} {A : Option Addr} {bs : List UInt8} (hx : a.eval x = .slice A n c) (h : At w lo hi A n bs) :
    (execOp a.eval o).run Tryz.prog w = .ok (.value (.string ⟨bs.toArray⟩)) w := by
  have := h.text (P := Tryz.prog) 39 5 Tryz.underlying39 Tryz.underlying5 c 9 Tryz.underlying9
  unfold execOp
  simp only [ho, hx, Sem.run_bind, this, Result.andThen_ok, Sem.run_pure]
theorem lt8_txt {x y : B8} (h : lt8 x y) : Op.bytesLess x.1 y.1 = true := by
  refine (cmp_less _ _).1 ?_
  have h1 : cf8 x y < 0 := h
  have := cf8_range x y
  have h2 : cf8 x y = -1 := by omega
  exact h2
theorem ge8_txt {x y : B8} (h : ¬ lt8 x y) : Op.bytesLess x.1 y.1 = false := by
  cases hb : Op.bytesLess x.1 y.1 with
  | false => rfl
  | true =>
    have h2 : cf8 x y = -1 := (cmp_less _ _).2 hb
    exact absurd (show cf8 x y < 0 by omega) h
/-- one more, at its place -/
theorem ins_at {L : List B8} {k : Nat} {x : B8} (hr : Rises L) (hlt : ∀ j e, j < k → L[j]? = some e → lt8 e x) (hge : ∀ y, L[k]? = some y → lt8 x y) (hk : k ≤ L.length) :
    Rises (L.take k ++ [x] ++ L.drop k) ∧ ∀ z, z ∈ L.take k ++ [x] ++ L.drop k ↔ z = x ∨ z ∈ L := by
  have hmem : ∀ z, z ∈ L ↔ z ∈ L.take k ∨ z ∈ L.drop k := fun z => by rw [← List.mem_append, List.take_append_drop]
  have hr' : Rises (L.take k ++ L.drop k) := by rw [List.take_append_drop]; exact hr
  obtain ⟨h1, h2, h3⟩ := List.pairwise_append.1 hr'
  have ha : ∀ a ∈ L.take k, lt8 a x := fun a h => by
    obtain ⟨j, hj, hje⟩ := List.getElem_of_mem h
    rw [List.length_take] at hj
    rw [List.getElem_take] at hje
    exact hlt j a (by omega) (by rw [List.getElem?_eq_getElem (by omega), hje])
  have hb : ∀ z ∈ L.drop k, lt8 x z := fun z h => by
    rcases Nat.lt_or_ge k L.length with hkl | hkl
    · have hd : L.drop k = L[k] :: L.drop (k + 1) := (List.drop_eq_getElem_cons hkl)
      have hx := hge L[k] (List.getElem?_eq_getElem hkl)
      rw [hd] at h h2
      rcases List.mem_cons.1 h with rfl | h
      · exact hx
      · exact lt8_trans hx ((List.pairwise_cons.1 h2).1 z h)
    · rw [List.drop_of_length_le hkl] at h; cases h
  refine ⟨?_, fun z => ?_⟩
  · rw [List.append_assoc]
    refine List.pairwise_append.2 ⟨h1, List.pairwise_cons.2 ⟨hb, h2⟩, fun a h b h' => ?_⟩
    rcases List.mem_cons.1 h' with rfl | h'
    · exact ha a h
    · exact h3 a h b h'
  · rw [List.mem_append, List.mem_append, hmem z, List.mem_singleton]
    constructor
    · rintro ((h | h) | h)
      · exact .inr (.inl h)
      · exact .inl h
      · exact .inr (.inr h)
    · rintro (h | h | h)
      · exact .inl (.inr h)
      · exact .inl (.inl h)
      · exact .inr h
theorem AtE.tail {w : World} {lo hi n c k : Nat} {A : Option Addr} {xs : List B8} (h : AtE w lo hi A n xs) (hk : k ≤ n) (hc : n ≤ c) : AtE w lo hi (if c = k then A else A.map (·.add (k * 8))) (n - k) (xs.drop k) := by
  refine ⟨by rw [List.length_drop, h.1], ?_⟩
  have h1 := h.2.tail (k := k * 8) (c := c * 8) (by omega) (by omega)
  rw [flat8_drop, show n * 8 - k * 8 = (n - k) * 8 by omega] at h1
  by_cases hck : c = k
  · rw [if_pos hck]
    rw [if_pos (by omega)] at h1
    exact h1
  · rw [if_neg hck]
    rw [if_neg (by omega)] at h1
    exact h1
/-- the row that came in, and the one that grows -/
def StS (w u : World) (lo hi b o n : Nat) (xs : List B8) (B : Option Addr) (m cc : Nat) (L : List B8) : Prop :=
  (AtE u lo hi (some ⟨b, o, none⟩) n xs ∧ hi ≤ w.heap.size) ∧ u.ownsRow w.heap.size 23 8 (.slice B m cc) m (bvs (flat8 L)) ∧ Below w.heap.size w u
section
variable {w u v : World} {lo hi b o n m cc : Nat} {xs L : List B8} {B : Option Addr}
theorem StS.a (h : StS w u lo hi b o n xs B m cc L) : AtE u lo hi (some ⟨b, o, none⟩) n xs := h.1.1
theorem StS.own (h : StS w u lo hi b o n xs B m cc L) : u.ownsRow w.heap.size 23 8 (.slice B m cc) m (bvs (flat8 L)) := h.2.1
theorem StS.l (h : StS w u lo hi b o n xs B m cc L) : AtE u w.heap.size u.heap.size B m L := AtE.own h.2.1
theorem StS.bel (h : StS w u lo hi b o n xs B m cc L) : Below w.heap.size w u := h.2.2
theorem StS.grown (h : StS w u lo hi b o n xs B m cc L) {row : Option Nat} (hg : u.grownBy v row) (hr : ∀ g, row = some g → w.heap.size ≤ g ∧ (Value.slice B m cc).ownBlock ≠ some g) : StS w v lo hi b o n xs B m cc L :=
  ⟨⟨h.a.grown hg (by have h1 := h.1.2; have h2 := h.bel.size; omega) (fun g e => .inr (by have h1 := (hr g e).1; have h2 := h.1.2; omega)), h.1.2⟩,
    ownN_row h.2.1 hg (by cases row with
      | none => cases hb : (Value.slice B m cc).ownBlock with
        | none => exact .inl rfl
        | some g => exact .inr (by simp)
      | some g => exact .inr (hr g rfl).2), h.bel.grown hg h.bel.size (fun g e => (hr g e).1)⟩
theorem StS.new (h : StS w u lo hi b o n xs B m cc L) (ob : Obj) : StS w (u.alloc ob) lo hi b o n xs B m cc L :=
  ⟨⟨h.a.alloc (by have h1 := h.1.2; have h2 := h.bel.size; omega) ob, h.1.2⟩, ownN_over h.2.1 ((Below.refl _ _).alloc (Nat.le_refl _) _), h.bel.alloc h.bel.size _⟩
theorem StS.far (h : StS w u lo hi b o n xs B m cc L) {vv : Value} {k : Nat} (hk : u.heap.size ≤ k) (hv : vv.ownBlock = none ∨ vv.ownBlock = some k) : ∀ g, vv.ownBlock = some g → w.heap.size ≤ g ∧ (Value.slice B m cc).ownBlock ≠ some g := fun g e => by
  rcases hv with hv | hv
  · rw [hv] at e; cases e
  · rw [hv] at e
    injection e with e
    subst e
    exact ⟨by have := h.bel.size; omega, fun e => by have := (h.own.lt _ e).2; omega⟩
theorem StS.drew (h : StS w u lo hi b o n xs B m cc L) : StS w u.drew lo hi b o n xs B m cc L := ⟨⟨h.a.drew, h.1.2⟩, h.2.1, below_drew h.bel⟩
end

set_option maxRecDepth 20000 in
set_option maxHeartbeats 4000000 in
theorem refset_any (w : World) (lo hi : Nat) (A : Option Addr) (n c : Nat) (xs : List B8) (h : AtE w lo hi A n xs) (hh : hi ≤ w.heap.size) (hn : n ≤ 1000000) :
    Calls Tryz.prog 25 #[.slice A n c] w fun e w' => ∃ v, e = .returned v ∧ w'.ownsRow w.heap.size 23 8 v (setL xs).length (bvs (flat8 (setL xs))) ∧ Below w.heap.size w w' := by
  have H := hide h
  have HXL := hide h.len
  clear h
  go_enter Tryz.func25, Tryz.ntmps25
  go_wp2_with fail
  go_loopg [3, 4] n (fun gg s3 s4 wr => ∃ (i m cc : Nat) (B : Option Addr) (L : List B8), s3 = .slice B m cc ∧ s4 = .int .i64 i ∧ i ≤ n ∧ n - i ≤ gg ∧ m ≤ i ∧ wr.ownsRow w.heap.size 23 8 (.slice B m cc) m (bvs (flat8 L)) ∧ Below w.heap.size w wr ∧ Rises L ∧ ∀ z, z ∈ L ↔ z ∈ xs.take i)
  case atStart => exact ⟨0, 0, 0, none, [], rfl, rfl, Nat.zero_le _, by omega, Nat.le_refl _, World.ownsRow_nil _ _ _ _, Below.refl _ _, List.Pairwise.nil, fun z => by simp⟩
  case round =>
    obtain ⟨i, m, cc, B, L, rfl, rfl, hi1, hg, hmi, hown, hbel, hris, hmem⟩ := hrel
    obtain ⟨_, _, _, hmc, hcm⟩ : ∃ A' c', (Value.slice B m cc) = .slice A' m c' ∧ m ≤ cc ∧ cc ≤ maxLen := by
      obtain ⟨A', c', e, h1, h2⟩ := own8_shape hown
      injection e with e1 e2 e3
      subst e1 e3
      exact ⟨_, _, rfl, h1, h2⟩
    have hml : L.length = m := (AtE.own hown).len
    have HML := hide hml
    have HO := hide hown
    have WB0 := hide hbel
    have HRIS := hide hris
    have HMEM := hide hmem
    clear hown hbel hris hmem hml
    by_cases hlt : i < n
    · have Xr0 := hide (H.out.keep (w' := wr) fun p _ hp => WB0.out.cell (p := p) (by omega))
      obtain ⟨b, o, x, rfl, _, _, hx, _⟩ := Xr0.out.at_ hlt
      have HX := hide hx
      have hiI : ((i : Nat) : Int) < n := by omega
      have S00 : Hid (StS w wr lo hi b o n xs B m cc L) := hide ⟨⟨Xr0.out, hh⟩, HO.out, WB0.out⟩
      have HNX : Hid (∀ z, z ∈ xs.take (i + 1) ↔ z ∈ xs.take i ∨ z = x) := hide (fun z => by rw [List.take_add_one, hx]; simp)
      clear hx
      go_wp2_with fail
      go_loopg [5] m (fun gg s5 wq => ∃ k : Nat, s5 = .int .i64 k ∧ k ≤ m ∧ m - k ≤ gg ∧ StS w wq lo hi b o n xs B m cc L ∧ ∀ j e, j < k → L[j]? = some e → lt8 e x)
      case atStart => exact ⟨0, rfl, Nat.zero_le _, by omega, S00.out, fun j e hj => absurd hj (by omega)⟩
      case round =>
        obtain ⟨k, rfl, hk, hg2, hst, hall⟩ := hrel
        have S0 := hide hst
        have HA := hide hall
        clear hst hall
        by_cases hlt2 : k < m
        · obtain ⟨b', o', y, rfl, _, _, hy, _⟩ := S0.out.l.at_ hlt2
          have HY := hide hy
          clear hy
          have hkI : ((k : Nat) : Int) < m := by omega
          by_cases hyx : lt8 y x
          · have HLT := hide (lt8_txt hyx)
            have HYX := hide hyx
            clear hyx
            go_wp2_with fail
            refine wp_region_held_drew (S := fun u => StS w u lo hi b o n xs (some ⟨b', o', none⟩) m cc L) (by kernel_rfl) S0.out.drew (fun hHeld => ?_)
            refine region_take (i := 0) (v := ?_) rfl (by kernel_rfl) (by kernel_rfl) (by kernel_rfl) (fun _ _ _ h => h) (Or.inl ⟨by rfl, ?_⟩) (by assumption) ?_
            rotate_left
            · (intro w' hSw; (try dsimp only at hSw); go_simp <;> with_reducible rfl)
            simp only [Act.put, List.setIfInBounds_toArray, List.set_cons_zero, List.set_cons_succ]
            refine region_take (i := 1) (v := ?_) rfl (by kernel_rfl) (by kernel_rfl) (by kernel_rfl) (fun _ _ _ h => h) (Or.inl ⟨by rfl, ?_⟩) (by assumption) ?_
            rotate_left
            · (intro w' hSw; (try dsimp only at hSw); go_simp <;> with_reducible rfl)
            simp only [Act.put, List.setIfInBounds_toArray, List.set_cons_zero, List.set_cons_succ]
            refine region_take (i := 2) (v := ?_) rfl (by kernel_rfl) (by kernel_rfl) (by kernel_rfl) (fun _ _ _ h => h) (Or.inl ⟨by rfl, ?_⟩) (by assumption) ?_
            rotate_left
            · (intro w' hSw; (try dsimp only at hSw); go_simp <;> with_reducible rfl)
            simp only [Act.put, List.setIfInBounds_toArray, List.set_cons_zero, List.set_cons_succ]
            refine region_take (i := 3) (v := ?_) rfl (by kernel_rfl) (by kernel_rfl) (by kernel_rfl) (fun _ _ _ h => h) (Or.inl ⟨by rfl, ?_⟩) (by assumption) ?_
            rotate_left
            · (intro w' hSw; (try dsimp only at hSw); go_simp <;> with_reducible rfl)
            simp only [Act.put, List.setIfInBounds_toArray, List.set_cons_zero, List.set_cons_succ]
            refine region_take (i := 4) (v := ?_) rfl (by kernel_rfl) (by kernel_rfl) (by kernel_rfl) (fun _ _ _ h => h) (Or.inl ⟨by rfl, ?_⟩) (by assumption) ?_
            rotate_left
            · (intro w' hSw; (try dsimp only at hSw); go_simp <;> with_reducible rfl)
            simp only [Act.put, List.setIfInBounds_toArray, List.set_cons_zero, List.set_cons_succ]
            refine region_take (i := 5) (v := ?_) rfl (by kernel_rfl) (by kernel_rfl) (by kernel_rfl) (fun _ _ _ h => h) (Or.inl ⟨by rfl, ?_⟩) (by assumption) ?_
            rotate_left
            · (intro w' hSw; (try dsimp only at hSw); go_simp <;> with_reducible rfl)
            simp only [Act.put, List.setIfInBounds_toArray, List.set_cons_zero, List.set_cons_succ]
            refine region_take (i := 6) (v := ?_) rfl (by kernel_rfl) (by kernel_rfl) (by kernel_rfl) (fun _ _ _ h => h) (Or.inl ⟨by rfl, ?_⟩) (by assumption) ?_
            rotate_left
            · (intro w' hSw; (try dsimp only at hSw); go_simp <;> with_reducible rfl)
            simp only [Act.put, List.setIfInBounds_toArray, List.set_cons_zero, List.set_cons_succ]
            refine region_take (i := 7) (v := ?_) rfl (by kernel_rfl) (by kernel_rfl) (by kernel_rfl) (fun _ _ _ h => h) (Or.inl ⟨by rfl, ?_⟩) (by assumption) ?_
            rotate_left
            · (intro w' hSw; (try dsimp only at hSw); go_simp <;> with_reducible rfl)
            simp only [Act.put, List.setIfInBounds_toArray, List.set_cons_zero, List.set_cons_succ]
            refine region_take (i := 8) (v := ?_) rfl (by kernel_rfl) (by kernel_rfl) (by kernel_rfl) (fun _ _ _ h => h) (Or.inl ⟨by rfl, ?_⟩) (by assumption) ?_
            rotate_left
            · (intro w' hSw; (try dsimp only at hSw); go_simp <;> with_reducible rfl)
            simp only [Act.put, List.setIfInBounds_toArray, List.set_cons_zero, List.set_cons_succ]
            refine region_take (i := 9) (v := (.string ⟨y.1.toArray⟩)) rfl (by kernel_rfl) (by kernel_rfl) (by kernel_rfl) (fun _ _ _ h => h) (Or.inl ⟨by rfl, ?_⟩) (by assumption) ?_
            · (intro w' hSw; exact exec_txt8 (.tmp 21) rfl rfl (AtE.get (StS.l hSw) HY.out))
            simp only [Act.put, List.setIfInBounds_toArray, List.set_cons_zero, List.set_cons_succ]
            refine region_take (i := 10) (v := ?_) rfl (by kernel_rfl) (by kernel_rfl) (by kernel_rfl) (fun _ _ _ h => h) (Or.inl ⟨by rfl, ?_⟩) (by assumption) ?_
            rotate_left
            · (intro w' hSw; (try dsimp only at hSw); go_simp <;> with_reducible rfl)
            simp only [Act.put, List.setIfInBounds_toArray, List.set_cons_zero, List.set_cons_succ]
            refine region_take (i := 11) (v := ?_) rfl (by kernel_rfl) (by kernel_rfl) (by kernel_rfl) (fun _ _ _ h => h) (Or.inl ⟨by rfl, ?_⟩) (by assumption) ?_
            rotate_left
            · (intro w' hSw; (try dsimp only at hSw); go_simp <;> with_reducible rfl)
            simp only [Act.put, List.setIfInBounds_toArray, List.set_cons_zero, List.set_cons_succ]
            refine region_take (i := 12) (v := ?_) rfl (by kernel_rfl) (by kernel_rfl) (by kernel_rfl) (fun _ _ _ h => h) (Or.inl ⟨by rfl, ?_⟩) (by assumption) ?_
            rotate_left
            · (intro w' hSw; (try dsimp only at hSw); go_simp <;> with_reducible rfl)
            simp only [Act.put, List.setIfInBounds_toArray, List.set_cons_zero, List.set_cons_succ]
            refine region_take (i := 13) (v := ?_) rfl (by kernel_rfl) (by kernel_rfl) (by kernel_rfl) (fun _ _ _ h => h) (Or.inl ⟨by rfl, ?_⟩) (by assumption) ?_
            rotate_left
            · (intro w' hSw; (try dsimp only at hSw); go_simp <;> with_reducible rfl)
            simp only [Act.put, List.setIfInBounds_toArray, List.set_cons_zero, List.set_cons_succ]
            refine region_take (i := 14) (v := (.string ⟨x.1.toArray⟩)) rfl (by kernel_rfl) (by kernel_rfl) (by kernel_rfl) (fun _ _ _ h => h) (Or.inl ⟨by rfl, ?_⟩) (by assumption) ?_
            · (intro w' hSw; exact exec_txt8 (.tmp 26) rfl rfl (AtE.get (StS.a hSw) HX.out))
            simp only [Act.put, List.setIfInBounds_toArray, List.set_cons_zero, List.set_cons_succ]
            refine region_take (i := 15) (v := (.bool true)) rfl (by kernel_rfl) (by kernel_rfl) (by kernel_rfl) (fun _ _ _ h => h) (Or.inl ⟨by rfl, ?_⟩) (by assumption) ?_
            · (intro w' hSw; exact (by go_simp; exact HLT.out))
            simp only [Act.put, List.setIfInBounds_toArray, List.set_cons_zero, List.set_cons_succ]
            refine region_take (i := 16) (v := ?_) rfl (by kernel_rfl) (by kernel_rfl) (by kernel_rfl) (fun _ _ _ h => h) (Or.inl ⟨by rfl, ?_⟩) (by assumption) ?_
            rotate_left
            · (intro w' hSw; (try dsimp only at hSw); go_simp <;> with_reducible rfl)
            simp only [Act.put, List.setIfInBounds_toArray, List.set_cons_zero, List.set_cons_succ]
            refine wpAnyH_done (by kernel_rfl) ?_ _
            go_wp2_with fail
            go_roundg (m - (k + 1))
            case measure => omega
            case rel =>
              refine ⟨k + 1, by go_num, by omega, Nat.le_refl _, hHeld, fun j z hj hz => ?_⟩
              rcases Nat.lt_or_ge j k with h | h
              · exact HA.out j z h hz
              · have : j = k := by omega
                subst this
                rw [HY.out] at hz
                injection hz with hz
                subst hz
                exact HYX.out
          · have HLT := hide (ge8_txt hyx)
            have HYX := hide hyx
            clear hyx
            go_wp2_with fail
            refine wp_region_held_drew (S := fun u => StS w u lo hi b o n xs (some ⟨b', o', none⟩) m cc L) (by kernel_rfl) S0.out.drew (fun hHeld => ?_)
            refine region_take (i := 0) (v := ?_) rfl (by kernel_rfl) (by kernel_rfl) (by kernel_rfl) (fun _ _ _ h => h) (Or.inl ⟨by rfl, ?_⟩) (by assumption) ?_
            rotate_left
            · (intro w' hSw; (try dsimp only at hSw); go_simp <;> with_reducible rfl)
            simp only [Act.put, List.setIfInBounds_toArray, List.set_cons_zero, List.set_cons_succ]
            refine region_take (i := 1) (v := ?_) rfl (by kernel_rfl) (by kernel_rfl) (by kernel_rfl) (fun _ _ _ h => h) (Or.inl ⟨by rfl, ?_⟩) (by assumption) ?_
            rotate_left
            · (intro w' hSw; (try dsimp only at hSw); go_simp <;> with_reducible rfl)
            simp only [Act.put, List.setIfInBounds_toArray, List.set_cons_zero, List.set_cons_succ]
            refine region_take (i := 2) (v := ?_) rfl (by kernel_rfl) (by kernel_rfl) (by kernel_rfl) (fun _ _ _ h => h) (Or.inl ⟨by rfl, ?_⟩) (by assumption) ?_
            rotate_left
            · (intro w' hSw; (try dsimp only at hSw); go_simp <;> with_reducible rfl)
            simp only [Act.put, List.setIfInBounds_toArray, List.set_cons_zero, List.set_cons_succ]
            refine region_take (i := 3) (v := ?_) rfl (by kernel_rfl) (by kernel_rfl) (by kernel_rfl) (fun _ _ _ h => h) (Or.inl ⟨by rfl, ?_⟩) (by assumption) ?_
            rotate_left
            · (intro w' hSw; (try dsimp only at hSw); go_simp <;> with_reducible rfl)
            simp only [Act.put, List.setIfInBounds_toArray, List.set_cons_zero, List.set_cons_succ]
            refine region_take (i := 4) (v := ?_) rfl (by kernel_rfl) (by kernel_rfl) (by kernel_rfl) (fun _ _ _ h => h) (Or.inl ⟨by rfl, ?_⟩) (by assumption) ?_
            rotate_left
            · (intro w' hSw; (try dsimp only at hSw); go_simp <;> with_reducible rfl)
            simp only [Act.put, List.setIfInBounds_toArray, List.set_cons_zero, List.set_cons_succ]
            refine region_take (i := 5) (v := ?_) rfl (by kernel_rfl) (by kernel_rfl) (by kernel_rfl) (fun _ _ _ h => h) (Or.inl ⟨by rfl, ?_⟩) (by assumption) ?_
            rotate_left
            · (intro w' hSw; (try dsimp only at hSw); go_simp <;> with_reducible rfl)
            simp only [Act.put, List.setIfInBounds_toArray, List.set_cons_zero, List.set_cons_succ]
            refine region_take (i := 6) (v := ?_) rfl (by kernel_rfl) (by kernel_rfl) (by kernel_rfl) (fun _ _ _ h => h) (Or.inl ⟨by rfl, ?_⟩) (by assumption) ?_
            rotate_left
            · (intro w' hSw; (try dsimp only at hSw); go_simp <;> with_reducible rfl)
            simp only [Act.put, List.setIfInBounds_toArray, List.set_cons_zero, List.set_cons_succ]
            refine region_take (i := 7) (v := ?_) rfl (by kernel_rfl) (by kernel_rfl) (by kernel_rfl) (fun _ _ _ h => h) (Or.inl ⟨by rfl, ?_⟩) (by assumption) ?_
            rotate_left
            · (intro w' hSw; (try dsimp only at hSw); go_simp <;> with_reducible rfl)
            simp only [Act.put, List.setIfInBounds_toArray, List.set_cons_zero, List.set_cons_succ]
            refine region_take (i := 8) (v := ?_) rfl (by kernel_rfl) (by kernel_rfl) (by kernel_rfl) (fun _ _ _ h => h) (Or.inl ⟨by rfl, ?_⟩) (by assumption) ?_
            rotate_left
            · (intro w' hSw; (try dsimp only at hSw); go_simp <;> with_reducible rfl)
            simp only [Act.put, List.setIfInBounds_toArray, List.set_cons_zero, List.set_cons_succ]
            refine region_take (i := 9) (v := (.string ⟨y.1.toArray⟩)) rfl (by kernel_rfl) (by kernel_rfl) (by kernel_rfl) (fun _ _ _ h => h) (Or.inl ⟨by rfl, ?_⟩) (by assumption) ?_
            · (intro w' hSw; exact exec_txt8 (.tmp 21) rfl rfl (AtE.get (StS.l hSw) HY.out))
            simp only [Act.put, List.setIfInBounds_toArray, List.set_cons_zero, List.set_cons_succ]
            refine region_take (i := 10) (v := ?_) rfl (by kernel_rfl) (by kernel_rfl) (by kernel_rfl) (fun _ _ _ h => h) (Or.inl ⟨by rfl, ?_⟩) (by assumption) ?_
            rotate_left
            · (intro w' hSw; (try dsimp only at hSw); go_simp <;> with_reducible rfl)
            simp only [Act.put, List.setIfInBounds_toArray, List.set_cons_zero, List.set_cons_succ]
            refine region_take (i := 11) (v := ?_) rfl (by kernel_rfl) (by kernel_rfl) (by kernel_rfl) (fun _ _ _ h => h) (Or.inl ⟨by rfl, ?_⟩) (by assumption) ?_
            rotate_left
            · (intro w' hSw; (try dsimp only at hSw); go_simp <;> with_reducible rfl)
            simp only [Act.put, List.setIfInBounds_toArray, List.set_cons_zero, List.set_cons_succ]
            refine region_take (i := 12) (v := ?_) rfl (by kernel_rfl) (by kernel_rfl) (by kernel_rfl) (fun _ _ _ h => h) (Or.inl ⟨by rfl, ?_⟩) (by assumption) ?_
            rotate_left
            · (intro w' hSw; (try dsimp only at hSw); go_simp <;> with_reducible rfl)
            simp only [Act.put, List.setIfInBounds_toArray, List.set_cons_zero, List.set_cons_succ]
            refine region_take (i := 13) (v := ?_) rfl (by kernel_rfl) (by kernel_rfl) (by kernel_rfl) (fun _ _ _ h => h) (Or.inl ⟨by rfl, ?_⟩) (by assumption) ?_
            rotate_left
            · (intro w' hSw; (try dsimp only at hSw); go_simp <;> with_reducible rfl)
            simp only [Act.put, List.setIfInBounds_toArray, List.set_cons_zero, List.set_cons_succ]
            refine region_take (i := 14) (v := (.string ⟨x.1.toArray⟩)) rfl (by kernel_rfl) (by kernel_rfl) (by kernel_rfl) (fun _ _ _ h => h) (Or.inl ⟨by rfl, ?_⟩) (by assumption) ?_
            · (intro w' hSw; exact exec_txt8 (.tmp 26) rfl rfl (AtE.get (StS.a hSw) HX.out))
            simp only [Act.put, List.setIfInBounds_toArray, List.set_cons_zero, List.set_cons_succ]
            refine region_take (i := 15) (v := (.bool false)) rfl (by kernel_rfl) (by kernel_rfl) (by kernel_rfl) (fun _ _ _ h => h) (Or.inl ⟨by rfl, ?_⟩) (by assumption) ?_
            · (intro w' hSw; exact (by go_simp; exact HLT.out))
            simp only [Act.put, List.setIfInBounds_toArray, List.set_cons_zero, List.set_cons_succ]
            refine region_take (i := 16) (v := ?_) rfl (by kernel_rfl) (by kernel_rfl) (by kernel_rfl) (fun _ _ _ h => h) (Or.inl ⟨by rfl, ?_⟩) (by assumption) ?_
            rotate_left
            · (intro w' hSw; (try dsimp only at hSw); go_simp <;> with_reducible rfl)
            simp only [Act.put, List.setIfInBounds_toArray, List.set_cons_zero, List.set_cons_succ]
            refine wpAnyH_done (by kernel_rfl) ?_ _
            go_wp2_with fail
            by_cases hyeq : y = x
            · subst hyeq
              have HQ : Hid ((y.1 == y.1) = true) := hide (by simp)
              refine wp_region_held_drew (S := fun u => StS w u lo hi b o n xs (some ⟨b', o', none⟩) m cc L) (by kernel_rfl) hHeld.drew (fun hHeld2 => ?_)
              refine region_take (i := 0) (v := ?_) rfl (by kernel_rfl) (by kernel_rfl) (by kernel_rfl) (fun _ _ _ h => h) (Or.inl ⟨by rfl, ?_⟩) (by assumption) ?_
              rotate_left
              · (intro w' hSw; (try dsimp only at hSw); go_simp <;> with_reducible rfl)
              simp only [Act.put, List.setIfInBounds_toArray, List.set_cons_zero, List.set_cons_succ]
              refine region_take (i := 1) (v := ?_) rfl (by kernel_rfl) (by kernel_rfl) (by kernel_rfl) (fun _ _ _ h => h) (Or.inl ⟨by rfl, ?_⟩) (by assumption) ?_
              rotate_left
              · (intro w' hSw; (try dsimp only at hSw); go_simp <;> with_reducible rfl)
              simp only [Act.put, List.setIfInBounds_toArray, List.set_cons_zero, List.set_cons_succ]
              refine region_take (i := 2) (v := ?_) rfl (by kernel_rfl) (by kernel_rfl) (by kernel_rfl) (fun _ _ _ h => h) (Or.inl ⟨by rfl, ?_⟩) (by assumption) ?_
              rotate_left
              · (intro w' hSw; (try dsimp only at hSw); go_simp <;> with_reducible rfl)
              simp only [Act.put, List.setIfInBounds_toArray, List.set_cons_zero, List.set_cons_succ]
              refine region_take (i := 3) (v := ?_) rfl (by kernel_rfl) (by kernel_rfl) (by kernel_rfl) (fun _ _ _ h => h) (Or.inl ⟨by rfl, ?_⟩) (by assumption) ?_
              rotate_left
              · (intro w' hSw; (try dsimp only at hSw); go_simp <;> with_reducible rfl)
              simp only [Act.put, List.setIfInBounds_toArray, List.set_cons_zero, List.set_cons_succ]
              refine region_take (i := 4) (v := ?_) rfl (by kernel_rfl) (by kernel_rfl) (by kernel_rfl) (fun _ _ _ h => h) (Or.inl ⟨by rfl, ?_⟩) (by assumption) ?_
              rotate_left
              · (intro w' hSw; (try dsimp only at hSw); go_simp <;> with_reducible rfl)
              simp only [Act.put, List.setIfInBounds_toArray, List.set_cons_zero, List.set_cons_succ]
              refine region_take (i := 5) (v := ?_) rfl (by kernel_rfl) (by kernel_rfl) (by kernel_rfl) (fun _ _ _ h => h) (Or.inl ⟨by rfl, ?_⟩) (by assumption) ?_
              rotate_left
              · (intro w' hSw; (try dsimp only at hSw); go_simp <;> with_reducible rfl)
              simp only [Act.put, List.setIfInBounds_toArray, List.set_cons_zero, List.set_cons_succ]
              refine region_take (i := 6) (v := ?_) rfl (by kernel_rfl) (by kernel_rfl) (by kernel_rfl) (fun _ _ _ h => h) (Or.inl ⟨by rfl, ?_⟩) (by assumption) ?_
              rotate_left
              · (intro w' hSw; (try dsimp only at hSw); go_simp <;> with_reducible rfl)
              simp only [Act.put, List.setIfInBounds_toArray, List.set_cons_zero, List.set_cons_succ]
              refine region_take (i := 7) (v := ?_) rfl (by kernel_rfl) (by kernel_rfl) (by kernel_rfl) (fun _ _ _ h => h) (Or.inl ⟨by rfl, ?_⟩) (by assumption) ?_
              rotate_left
              · (intro w' hSw; (try dsimp only at hSw); go_simp <;> with_reducible rfl)
              simp only [Act.put, List.setIfInBounds_toArray, List.set_cons_zero, List.set_cons_succ]
              refine region_take (i := 8) (v := (.agg (rdC y.1))) rfl (by kernel_rfl) (by kernel_rfl) (by kernel_rfl) (fun _ _ _ h => h) (Or.inl ⟨by rfl, ?_⟩) (by assumption) ?_
              · (intro w' hSw; exact exec_load_elem (.tmp 39) rfl rfl (AtE.get (StS.l hSw) HY.out))
              simp only [Act.put, List.setIfInBounds_toArray, List.set_cons_zero, List.set_cons_succ]
              refine region_take (i := 9) (v := ?_) rfl (by kernel_rfl) (by kernel_rfl) (by kernel_rfl) (fun _ _ _ h => h) (Or.inl ⟨by rfl, ?_⟩) (by assumption) ?_
              rotate_left
              · (intro w' hSw; (try dsimp only at hSw); go_simp <;> with_reducible rfl)
              simp only [Act.put, List.setIfInBounds_toArray, List.set_cons_zero, List.set_cons_succ]
              refine region_take (i := 10) (v := ?_) rfl (by kernel_rfl) (by kernel_rfl) (by kernel_rfl) (fun _ _ _ h => h) (Or.inl ⟨by rfl, ?_⟩) (by assumption) ?_
              rotate_left
              · (intro w' hSw; (try dsimp only at hSw); go_simp <;> with_reducible rfl)
              simp only [Act.put, List.setIfInBounds_toArray, List.set_cons_zero, List.set_cons_succ]
              refine region_take (i := 11) (v := ?_) rfl (by kernel_rfl) (by kernel_rfl) (by kernel_rfl) (fun _ _ _ h => h) (Or.inl ⟨by rfl, ?_⟩) (by assumption) ?_
              rotate_left
              · (intro w' hSw; (try dsimp only at hSw); go_simp <;> with_reducible rfl)
              simp only [Act.put, List.setIfInBounds_toArray, List.set_cons_zero, List.set_cons_succ]
              refine region_take (i := 12) (v := (.agg (rdC y.1))) rfl (by kernel_rfl) (by kernel_rfl) (by kernel_rfl) (fun _ _ _ h => h) (Or.inl ⟨by rfl, ?_⟩) (by assumption) ?_
              · (intro w' hSw; exact exec_load_elem (.tmp 43) rfl rfl (AtE.get (StS.a hSw) HX.out))
              simp only [Act.put, List.setIfInBounds_toArray, List.set_cons_zero, List.set_cons_succ]
              refine region_take (i := 13) (v := (.bool true)) rfl (by kernel_rfl) (by kernel_rfl) (by kernel_rfl) (fun _ _ _ h => h) (Or.inl ⟨by rfl, ?_⟩) (by assumption) ?_
              · (intro w' hSw; exact exec_eql_ext (.tmp 40) (.tmp 44) rfl rfl rfl y.2 y.2 HQ.out)
              simp only [Act.put, List.setIfInBounds_toArray, List.set_cons_zero, List.set_cons_succ]
              refine region_take (i := 14) (v := ?_) rfl (by kernel_rfl) (by kernel_rfl) (by kernel_rfl) (fun _ _ _ h => h) (Or.inl ⟨by rfl, ?_⟩) (by assumption) ?_
              rotate_left
              · (intro w' hSw; (try dsimp only at hSw); go_simp <;> with_reducible rfl)
              simp only [Act.put, List.setIfInBounds_toArray, List.set_cons_zero, List.set_cons_succ]
              refine wpAnyH_done (by kernel_rfl) ?_ _
              go_wp2_with fail
              go_roundg (n - (i + 1))
              case measure => omega
              case rel =>
                refine ⟨i + 1, m, cc, _, L, rfl, by go_num, by omega, Nat.le_refl _, by omega, hHeld2.own, hHeld2.bel, HRIS.out, fun z => ?_⟩
                rw [HNX.out, HMEM.out]
                exact ⟨fun h => .inl h, fun h => h.elim id (fun e => e ▸ (HMEM.out _).1 (List.mem_of_getElem? HY.out))⟩
            · have HQ : Hid ((y.1 == x.1) = false) := hide (by
                have : y.1 ≠ x.1 := fun e => hyeq (Subtype.ext e)
                simpa using this)
              have HIN := hide (ins_at (x := x) HRIS.out HA.out (fun z hz => by
                rw [HY.out] at hz
                injection hz with hz
                subst hz
                rcases lt8_tri x y with h | h | h
                · exact h
                · exact absurd h.symm hyeq
                · exact absurd h HYX.out) (by rw [HML.out]; exact hk))
              clear hyeq
              refine wp_region_held_drew (S := fun u => StS w u lo hi b o n xs (some ⟨b', o', none⟩) m cc L) (by kernel_rfl) hHeld.drew (fun hHeld2 => ?_)
              refine region_take (i := 0) (v := ?_) rfl (by kernel_rfl) (by kernel_rfl) (by kernel_rfl) (fun _ _ _ h => h) (Or.inl ⟨by rfl, ?_⟩) (by assumption) ?_
              rotate_left
              · (intro w' hSw; (try dsimp only at hSw); go_simp <;> with_reducible rfl)
              simp only [Act.put, List.setIfInBounds_toArray, List.set_cons_zero, List.set_cons_succ]
              refine region_take (i := 1) (v := ?_) rfl (by kernel_rfl) (by kernel_rfl) (by kernel_rfl) (fun _ _ _ h => h) (Or.inl ⟨by rfl, ?_⟩) (by assumption) ?_
              rotate_left
              · (intro w' hSw; (try dsimp only at hSw); go_simp <;> with_reducible rfl)
              simp only [Act.put, List.setIfInBounds_toArray, List.set_cons_zero, List.set_cons_succ]
              refine region_take (i := 2) (v := ?_) rfl (by kernel_rfl) (by kernel_rfl) (by kernel_rfl) (fun _ _ _ h => h) (Or.inl ⟨by rfl, ?_⟩) (by assumption) ?_
              rotate_left
              · (intro w' hSw; (try dsimp only at hSw); go_simp <;> with_reducible rfl)
              simp only [Act.put, List.setIfInBounds_toArray, List.set_cons_zero, List.set_cons_succ]
              refine region_take (i := 3) (v := ?_) rfl (by kernel_rfl) (by kernel_rfl) (by kernel_rfl) (fun _ _ _ h => h) (Or.inl ⟨by rfl, ?_⟩) (by assumption) ?_
              rotate_left
              · (intro w' hSw; (try dsimp only at hSw); go_simp <;> with_reducible rfl)
              simp only [Act.put, List.setIfInBounds_toArray, List.set_cons_zero, List.set_cons_succ]
              refine region_take (i := 4) (v := ?_) rfl (by kernel_rfl) (by kernel_rfl) (by kernel_rfl) (fun _ _ _ h => h) (Or.inl ⟨by rfl, ?_⟩) (by assumption) ?_
              rotate_left
              · (intro w' hSw; (try dsimp only at hSw); go_simp <;> with_reducible rfl)
              simp only [Act.put, List.setIfInBounds_toArray, List.set_cons_zero, List.set_cons_succ]
              refine region_take (i := 5) (v := ?_) rfl (by kernel_rfl) (by kernel_rfl) (by kernel_rfl) (fun _ _ _ h => h) (Or.inl ⟨by rfl, ?_⟩) (by assumption) ?_
              rotate_left
              · (intro w' hSw; (try dsimp only at hSw); go_simp <;> with_reducible rfl)
              simp only [Act.put, List.setIfInBounds_toArray, List.set_cons_zero, List.set_cons_succ]
              refine region_take (i := 6) (v := ?_) rfl (by kernel_rfl) (by kernel_rfl) (by kernel_rfl) (fun _ _ _ h => h) (Or.inl ⟨by rfl, ?_⟩) (by assumption) ?_
              rotate_left
              · (intro w' hSw; (try dsimp only at hSw); go_simp <;> with_reducible rfl)
              simp only [Act.put, List.setIfInBounds_toArray, List.set_cons_zero, List.set_cons_succ]
              refine region_take (i := 7) (v := ?_) rfl (by kernel_rfl) (by kernel_rfl) (by kernel_rfl) (fun _ _ _ h => h) (Or.inl ⟨by rfl, ?_⟩) (by assumption) ?_
              rotate_left
              · (intro w' hSw; (try dsimp only at hSw); go_simp <;> with_reducible rfl)
              simp only [Act.put, List.setIfInBounds_toArray, List.set_cons_zero, List.set_cons_succ]
              refine region_take (i := 8) (v := (.agg (rdC y.1))) rfl (by kernel_rfl) (by kernel_rfl) (by kernel_rfl) (fun _ _ _ h => h) (Or.inl ⟨by rfl, ?_⟩) (by assumption) ?_
              · (intro w' hSw; exact exec_load_elem (.tmp 39) rfl rfl (AtE.get (StS.l hSw) HY.out))
              simp only [Act.put, List.setIfInBounds_toArray, List.set_cons_zero, List.set_cons_succ]
              refine region_take (i := 9) (v := ?_) rfl (by kernel_rfl) (by kernel_rfl) (by kernel_rfl) (fun _ _ _ h => h) (Or.inl ⟨by rfl, ?_⟩) (by assumption) ?_
              rotate_left
              · (intro w' hSw; (try dsimp only at hSw); go_simp <;> with_reducible rfl)
              simp only [Act.put, List.setIfInBounds_toArray, List.set_cons_zero, List.set_cons_succ]
              refine region_take (i := 10) (v := ?_) rfl (by kernel_rfl) (by kernel_rfl) (by kernel_rfl) (fun _ _ _ h => h) (Or.inl ⟨by rfl, ?_⟩) (by assumption) ?_
              rotate_left
              · (intro w' hSw; (try dsimp only at hSw); go_simp <;> with_reducible rfl)
              simp only [Act.put, List.setIfInBounds_toArray, List.set_cons_zero, List.set_cons_succ]
              refine region_take (i := 11) (v := ?_) rfl (by kernel_rfl) (by kernel_rfl) (by kernel_rfl) (fun _ _ _ h => h) (Or.inl ⟨by rfl, ?_⟩) (by assumption) ?_
              rotate_left
              · (intro w' hSw; (try dsimp only at hSw); go_simp <;> with_reducible rfl)
              simp only [Act.put, List.setIfInBounds_toArray, List.set_cons_zero, List.set_cons_succ]
              refine region_take (i := 12) (v := (.agg (rdC x.1))) rfl (by kernel_rfl) (by kernel_rfl) (by kernel_rfl) (fun _ _ _ h => h) (Or.inl ⟨by rfl, ?_⟩) (by assumption) ?_
              · (intro w' hSw; exact exec_load_elem (.tmp 43) rfl rfl (AtE.get (StS.a hSw) HX.out))
              simp only [Act.put, List.setIfInBounds_toArray, List.set_cons_zero, List.set_cons_succ]
              refine region_take (i := 13) (v := (.bool false)) rfl (by kernel_rfl) (by kernel_rfl) (by kernel_rfl) (fun _ _ _ h => h) (Or.inl ⟨by rfl, ?_⟩) (by assumption) ?_
              · (intro w' hSw; exact exec_eql_ext (.tmp 40) (.tmp 44) rfl rfl rfl y.2 x.2 HQ.out)
              simp only [Act.put, List.setIfInBounds_toArray, List.set_cons_zero, List.set_cons_succ]
              refine region_take (i := 14) (v := ?_) rfl (by kernel_rfl) (by kernel_rfl) (by kernel_rfl) (fun _ _ _ h => h) (Or.inl ⟨by rfl, ?_⟩) (by assumption) ?_
              rotate_left
              · (intro w' hSw; (try dsimp only at hSw); go_simp <;> with_reducible rfl)
              simp only [Act.put, List.setIfInBounds_toArray, List.set_cons_zero, List.set_cons_succ]
              refine wpAnyH_done (by kernel_rfl) ?_ _
              have S3 := hide hHeld2
              clear hHeld2 hHeld
              have hmcc : ((m : Nat) : Int) ≤ cc := by omega
              have hkm2 : ((k : Nat) : Int) ≤ cc := by omega
              go_wp2_with (at_builtin; go_must (refine wpList_append_exts _ rfl (.tmp 47) (.tmp 50) rfl w.heap.size (.slice none 0 0) 0 [] rfl (World.ownsRow_nil _ _ _ _) _ _ (some ⟨b', o', none⟩) k cc (L.take k) rfl (S3.out.l.head (by omega)) (by omega) S3.out.bel.size ?_); intro v5 w5 hown5 hg5 hat5; rw [List.nil_append, Nat.zero_add] at hown5; have HO5 := hide hown5; have S5 := hide (S3.out.grown hg5 (fun g e => by cases e)); have HT5 := hide (S3.out.far (Nat.le_refl _) (hat5)); have hs5 := hg5.size; clear hown5 hg5 hat5; refine Hid.out ?_)
              refine hide ?_
              obtain ⟨A5, c5, rfl, _, _⟩ := own8_shape HO5.out
              have HE5 := hide (AtE.get S5.out.a HX.out)
              have HXL8 : Hid (x.1.length = 8) := hide x.2
              have S5b := hide (S5.out.new (.cells (bvs x.1).toArray 23))
              have HO5b := hide (ownN_over HO5.out ((Below.refl _ _).alloc (Nat.le_refl _) (.cells (bvs x.1).toArray 23)))
              go_wp2_with (first
                | ((with_reducible refine wpList_load_elem ?_ (.tmp 55) rfl rfl HE5.out ?_); · rfl)
                | ((refine wpList_build1 ?_ (.tmp 56) rfl (xs := x.1) rfl HXL8.out ?_); · rfl)
                | (at_builtin; go_must (refine wpList_append_exts _ rfl (.tmp 52) (.tmp 57) rfl w.heap.size (.slice A5 k c5) k (L.take k) rfl HO5b.out _ _ (some ⟨w5.heap.size, 0, none⟩) 1 1 [x] rfl (at_one8 _ _ x) (by omega) S5b.out.bel.size ?_); intro v6 w6 hown6 hg6 hat6; have HO6 := hide hown6; have S6 := hide (S5b.out.grown hg6 HT5.out); have HT6 : Hid (∀ g, v6.ownBlock = some g → w.heap.size ≤ g ∧ (Value.slice (some ⟨b', o', none⟩) m cc).ownBlock ≠ some g) := hide (hat6.elim (fun h g e => HT5.out g (h ▸ e)) (fun h => S5b.out.far (Nat.le_refl _) (.inr h))); clear hown6 hg6 hat6; refine Hid.out ?_))
              refine hide ?_
              obtain ⟨A6, c6, rfl, _, _⟩ := own8_shape HO6.out
              have HTL := hide (by have h := S6.out.l.tail (k := k) (c := cc) (by omega) hmc; rw [if_neg (by omega)] at h; simp only [Option.map_some, add_plain] at h; exact h)
              go_wp2_with (at_builtin; go_must (refine wpList_append_exts _ rfl (.tmp 59) (.tmp 62) rfl w.heap.size (.slice A6 (k + 1) c6) (k + 1) (L.take k ++ [x]) rfl HO6.out _ _ _ (m - k) (cc - k) (L.drop k) rfl HTL.out (by omega) S6.out.bel.size ?_); intro v7 w7 hown7 hg7 hat7; rw [show k + 1 + (m - k) = m + 1 by omega] at hown7; have HO7 := hide hown7; have S7 := hide (S6.out.grown hg7 HT6.out); clear hown7 hg7 hat7)
              obtain ⟨A7, c7, rfl, _, _⟩ := own8_shape HO7.out
              go_roundg (n - (i + 1))
              case measure => omega
              case rel =>
                refine ⟨i + 1, m + 1, c7, A7, _, rfl, by go_num, by omega, Nat.le_refl _, by omega, HO7.out, S7.out.bel, HIN.out.1, fun z => ?_⟩
                rw [HNX.out, HIN.out.2, HMEM.out]
                exact Or.comm

        · have hkn : k = m := by omega
          subst hkn
          go_wp2_with fail
          refine wp_region_held_drew (S := fun u => StS w u lo hi b o n xs B k cc L) (by kernel_rfl) S0.out.drew (fun hHeld => ?_)
          refine region_take (i := 0) (v := ?_) rfl (by kernel_rfl) (by kernel_rfl) (by kernel_rfl) (fun _ _ _ h => h) (Or.inl ⟨by rfl, ?_⟩) (by assumption) ?_
          rotate_left
          · (intro w' hSw; (try dsimp only at hSw); go_simp <;> with_reducible rfl)
          simp only [Act.put, List.setIfInBounds_toArray, List.set_cons_zero, List.set_cons_succ]
          refine region_take (i := 1) (v := ?_) rfl (by kernel_rfl) (by kernel_rfl) (by kernel_rfl) (fun _ _ _ h => h) (Or.inl ⟨by rfl, ?_⟩) (by assumption) ?_
          rotate_left
          · (intro w' hSw; (try dsimp only at hSw); go_simp <;> with_reducible rfl)
          simp only [Act.put, List.setIfInBounds_toArray, List.set_cons_zero, List.set_cons_succ]
          refine region_take (i := 2) (v := ?_) rfl (by kernel_rfl) (by kernel_rfl) (by kernel_rfl) (fun _ _ _ h => h) (Or.inl ⟨by rfl, ?_⟩) (by assumption) ?_
          rotate_left
          · (intro w' hSw; (try dsimp only at hSw); go_simp <;> with_reducible rfl)
          simp only [Act.put, List.setIfInBounds_toArray, List.set_cons_zero, List.set_cons_succ]
          refine region_take (i := 3) (v := ?_) rfl (by kernel_rfl) (by kernel_rfl) (by kernel_rfl) (fun _ _ _ h => h) (Or.inl ⟨by rfl, ?_⟩) (by assumption) ?_
          rotate_left
          · (intro w' hSw; (try dsimp only at hSw); go_simp <;> with_reducible rfl)
          simp only [Act.put, List.setIfInBounds_toArray, List.set_cons_zero, List.set_cons_succ]
          refine region_take (i := 4) (v := ?_) rfl (by kernel_rfl) (by kernel_rfl) (by kernel_rfl) (fun _ _ _ h => h) (Or.inl ⟨by rfl, ?_⟩) (by assumption) ?_
          rotate_left
          · (intro w' hSw; (try dsimp only at hSw); go_simp <;> with_reducible rfl)
          simp only [Act.put, List.setIfInBounds_toArray, List.set_cons_zero, List.set_cons_succ]
          refine region_take (i := 5) (v := undef) rfl (by kernel_rfl) (by kernel_rfl) (by kernel_rfl) (fun _ _ _ h => h) (Or.inr ⟨by rfl, rfl⟩) (by assumption) ?_
          simp only [Act.put, List.setIfInBounds_toArray, List.set_cons_zero, List.set_cons_succ]
          refine region_take (i := 6) (v := undef) rfl (by kernel_rfl) (by kernel_rfl) (by kernel_rfl) (fun _ _ _ h => h) (Or.inr ⟨by rfl, rfl⟩) (by assumption) ?_
          simp only [Act.put, List.setIfInBounds_toArray, List.set_cons_zero, List.set_cons_succ]
          refine region_take (i := 7) (v := undef) rfl (by kernel_rfl) (by kernel_rfl) (by kernel_rfl) (fun _ _ _ h => h) (Or.inr ⟨by rfl, rfl⟩) (by assumption) ?_
          simp only [Act.put, List.setIfInBounds_toArray, List.set_cons_zero, List.set_cons_succ]
          refine region_take (i := 8) (v := undef) rfl (by kernel_rfl) (by kernel_rfl) (by kernel_rfl) (fun _ _ _ h => h) (Or.inr ⟨by rfl, rfl⟩) (by assumption) ?_
          simp only [Act.put, List.setIfInBounds_toArray, List.set_cons_zero, List.set_cons_succ]
          refine region_take (i := 9) (v := undef) rfl (by kernel_rfl) (by kernel_rfl) (by kernel_rfl) (fun _ _ _ h => h) (Or.inr ⟨by rfl, rfl⟩) (by assumption) ?_
          simp only [Act.put, List.setIfInBounds_toArray, List.set_cons_zero, List.set_cons_succ]
          refine region_take (i := 10) (v := undef) rfl (by kernel_rfl) (by kernel_rfl) (by kernel_rfl) (fun _ _ _ h => h) (Or.inr ⟨by rfl, rfl⟩) (by assumption) ?_
          simp only [Act.put, List.setIfInBounds_toArray, List.set_cons_zero, List.set_cons_succ]
          refine region_take (i := 11) (v := undef) rfl (by kernel_rfl) (by kernel_rfl) (by kernel_rfl) (fun _ _ _ h => h) (Or.inr ⟨by rfl, rfl⟩) (by assumption) ?_
          simp only [Act.put, List.setIfInBounds_toArray, List.set_cons_zero, List.set_cons_succ]
          refine region_take (i := 12) (v := undef) rfl (by kernel_rfl) (by kernel_rfl) (by kernel_rfl) (fun _ _ _ h => h) (Or.inr ⟨by rfl, rfl⟩) (by assumption) ?_
          simp only [Act.put, List.setIfInBounds_toArray, List.set_cons_zero, List.set_cons_succ]
          refine region_take (i := 13) (v := undef) rfl (by kernel_rfl) (by kernel_rfl) (by kernel_rfl) (fun _ _ _ h => h) (Or.inr ⟨by rfl, rfl⟩) (by assumption) ?_
          simp only [Act.put, List.setIfInBounds_toArray, List.set_cons_zero, List.set_cons_succ]
          refine region_take (i := 14) (v := undef) rfl (by kernel_rfl) (by kernel_rfl) (by kernel_rfl) (fun _ _ _ h => h) (Or.inr ⟨by rfl, rfl⟩) (by assumption) ?_
          simp only [Act.put, List.setIfInBounds_toArray, List.set_cons_zero, List.set_cons_succ]
          refine region_take (i := 15) (v := undef) rfl (by kernel_rfl) (by kernel_rfl) (by kernel_rfl) (fun _ _ _ h => h) (Or.inr ⟨by rfl, rfl⟩) (by assumption) ?_
          simp only [Act.put, List.setIfInBounds_toArray, List.set_cons_zero, List.set_cons_succ]
          refine region_take (i := 16) (v := ?_) rfl (by kernel_rfl) (by kernel_rfl) (by kernel_rfl) (fun _ _ _ h => h) (Or.inl ⟨by rfl, ?_⟩) (by assumption) ?_
          rotate_left
          · (intro w' hSw; (try dsimp only at hSw); go_simp <;> with_reducible rfl)
          simp only [Act.put, List.setIfInBounds_toArray, List.set_cons_zero, List.set_cons_succ]
          refine wpAnyH_done (by kernel_rfl) ?_ _
          go_wp2_with fail
          have HIN := hide (ins_at (x := x) HRIS.out HA.out (fun z hz => by
            have := (List.getElem?_eq_some_iff.1 hz).1
            rw [HML.out] at this
            omega) (by rw [HML.out]; exact Nat.le_refl _))
          refine wp_region_held_drew (S := fun u => StS w u lo hi b o n xs B k cc L) (by kernel_rfl) hHeld.drew (fun hHeld2 => ?_)
          refine region_take (i := 0) (v := ?_) rfl (by kernel_rfl) (by kernel_rfl) (by kernel_rfl) (fun _ _ _ h => h) (Or.inl ⟨by rfl, ?_⟩) (by assumption) ?_
          rotate_left
          · (intro w' hSw; (try dsimp only at hSw); go_simp <;> with_reducible rfl)
          simp only [Act.put, List.setIfInBounds_toArray, List.set_cons_zero, List.set_cons_succ]
          refine region_take (i := 1) (v := ?_) rfl (by kernel_rfl) (by kernel_rfl) (by kernel_rfl) (fun _ _ _ h => h) (Or.inl ⟨by rfl, ?_⟩) (by assumption) ?_
          rotate_left
          · (intro w' hSw; (try dsimp only at hSw); go_simp <;> with_reducible rfl)
          simp only [Act.put, List.setIfInBounds_toArray, List.set_cons_zero, List.set_cons_succ]
          refine region_take (i := 2) (v := ?_) rfl (by kernel_rfl) (by kernel_rfl) (by kernel_rfl) (fun _ _ _ h => h) (Or.inl ⟨by rfl, ?_⟩) (by assumption) ?_
          rotate_left
          · (intro w' hSw; (try dsimp only at hSw); go_simp <;> with_reducible rfl)
          simp only [Act.put, List.setIfInBounds_toArray, List.set_cons_zero, List.set_cons_succ]
          refine region_take (i := 3) (v := ?_) rfl (by kernel_rfl) (by kernel_rfl) (by kernel_rfl) (fun _ _ _ h => h) (Or.inl ⟨by rfl, ?_⟩) (by assumption) ?_
          rotate_left
          · (intro w' hSw; (try dsimp only at hSw); go_simp <;> with_reducible rfl)
          simp only [Act.put, List.setIfInBounds_toArray, List.set_cons_zero, List.set_cons_succ]
          refine region_take (i := 4) (v := ?_) rfl (by kernel_rfl) (by kernel_rfl) (by kernel_rfl) (fun _ _ _ h => h) (Or.inl ⟨by rfl, ?_⟩) (by assumption) ?_
          rotate_left
          · (intro w' hSw; (try dsimp only at hSw); go_simp <;> with_reducible rfl)
          simp only [Act.put, List.setIfInBounds_toArray, List.set_cons_zero, List.set_cons_succ]
          refine region_take (i := 5) (v := undef) rfl (by kernel_rfl) (by kernel_rfl) (by kernel_rfl) (fun _ _ _ h => h) (Or.inr ⟨by rfl, rfl⟩) (by assumption) ?_
          simp only [Act.put, List.setIfInBounds_toArray, List.set_cons_zero, List.set_cons_succ]
          refine region_take (i := 6) (v := undef) rfl (by kernel_rfl) (by kernel_rfl) (by kernel_rfl) (fun _ _ _ h => h) (Or.inr ⟨by rfl, rfl⟩) (by assumption) ?_
          simp only [Act.put, List.setIfInBounds_toArray, List.set_cons_zero, List.set_cons_succ]
          refine region_take (i := 7) (v := undef) rfl (by kernel_rfl) (by kernel_rfl) (by kernel_rfl) (fun _ _ _ h => h) (Or.inr ⟨by rfl, rfl⟩) (by assumption) ?_
          simp only [Act.put, List.setIfInBounds_toArray, List.set_cons_zero, List.set_cons_succ]
          refine region_take (i := 8) (v := undef) rfl (by kernel_rfl) (by kernel_rfl) (by kernel_rfl) (fun _ _ _ h => h) (Or.inr ⟨by rfl, rfl⟩) (by assumption) ?_
          simp only [Act.put, List.setIfInBounds_toArray, List.set_cons_zero, List.set_cons_succ]
          refine region_take (i := 9) (v := undef) rfl (by kernel_rfl) (by kernel_rfl) (by kernel_rfl) (fun _ _ _ h => h) (Or.inr ⟨by rfl, rfl⟩) (by assumption) ?_
          simp only [Act.put, List.setIfInBounds_toArray, List.set_cons_zero, List.set_cons_succ]
          refine region_take (i := 10) (v := undef) rfl (by kernel_rfl) (by kernel_rfl) (by kernel_rfl) (fun _ _ _ h => h) (Or.inr ⟨by rfl, rfl⟩) (by assumption) ?_
          simp only [Act.put, List.setIfInBounds_toArray, List.set_cons_zero, List.set_cons_succ]
          refine region_take (i := 11) (v := undef) rfl (by kernel_rfl) (by kernel_rfl) (by kernel_rfl) (fun _ _ _ h => h) (Or.inr ⟨by rfl, rfl⟩) (by assumption) ?_
          simp only [Act.put, List.setIfInBounds_toArray, List.set_cons_zero, List.set_cons_succ]
          refine region_take (i := 12) (v := undef) rfl (by kernel_rfl) (by kernel_rfl) (by kernel_rfl) (fun _ _ _ h => h) (Or.inr ⟨by rfl, rfl⟩) (by assumption) ?_
          simp only [Act.put, List.setIfInBounds_toArray, List.set_cons_zero, List.set_cons_succ]
          refine region_take (i := 13) (v := undef) rfl (by kernel_rfl) (by kernel_rfl) (by kernel_rfl) (fun _ _ _ h => h) (Or.inr ⟨by rfl, rfl⟩) (by assumption) ?_
          simp only [Act.put, List.setIfInBounds_toArray, List.set_cons_zero, List.set_cons_succ]
          refine region_take (i := 14) (v := ?_) rfl (by kernel_rfl) (by kernel_rfl) (by kernel_rfl) (fun _ _ _ h => h) (Or.inl ⟨by rfl, ?_⟩) (by assumption) ?_
          rotate_left
          · (intro w' hSw; (try dsimp only at hSw); go_simp <;> with_reducible rfl)
          simp only [Act.put, List.setIfInBounds_toArray, List.set_cons_zero, List.set_cons_succ]
          refine wpAnyH_done (by kernel_rfl) ?_ _
          have S3 := hide hHeld2
          clear hHeld2 hHeld
          have hmcc : ((k : Nat) : Int) ≤ cc := by omega
          go_wp2_with (at_builtin; go_must (refine wpList_append_exts _ rfl (.tmp 47) (.tmp 50) rfl w.heap.size (.slice none 0 0) 0 [] rfl (World.ownsRow_nil _ _ _ _) _ _ B k cc (L.take k) rfl (S3.out.l.head (by omega)) (by omega) S3.out.bel.size ?_); intro v5 w5 hown5 hg5 hat5; rw [List.nil_append, Nat.zero_add] at hown5; have HO5 := hide hown5; have S5 := hide (S3.out.grown hg5 (fun g e => by cases e)); have HT5 := hide (S3.out.far (Nat.le_refl _) (hat5)); have hs5 := hg5.size; clear hown5 hg5 hat5; refine Hid.out ?_)
          refine hide ?_
          obtain ⟨A5, c5, rfl, _, _⟩ := own8_shape HO5.out
          have HE5 := hide (AtE.get S5.out.a HX.out)
          have HXL8 : Hid (x.1.length = 8) := hide x.2
          have S5b := hide (S5.out.new (.cells (bvs x.1).toArray 23))
          have HO5b := hide (ownN_over HO5.out ((Below.refl _ _).alloc (Nat.le_refl _) (.cells (bvs x.1).toArray 23)))
          go_wp2_with (first
            | ((with_reducible refine wpList_load_elem ?_ (.tmp 55) rfl rfl HE5.out ?_); · rfl)
            | ((refine wpList_build1 ?_ (.tmp 56) rfl (xs := x.1) rfl HXL8.out ?_); · rfl)
            | (at_builtin; go_must (refine wpList_append_exts _ rfl (.tmp 52) (.tmp 57) rfl w.heap.size (.slice A5 k c5) k (L.take k) rfl HO5b.out _ _ (some ⟨w5.heap.size, 0, none⟩) 1 1 [x] rfl (at_one8 _ _ x) (by omega) S5b.out.bel.size ?_); intro v6 w6 hown6 hg6 hat6; have HO6 := hide hown6; have S6 := hide (S5b.out.grown hg6 HT5.out); have HT6 : Hid (∀ g, v6.ownBlock = some g → w.heap.size ≤ g ∧ (Value.slice B k cc).ownBlock ≠ some g) := hide (hat6.elim (fun h g e => HT5.out g (h ▸ e)) (fun h => S5b.out.far (Nat.le_refl _) (.inr h))); clear hown6 hg6 hat6; refine Hid.out ?_))
          refine hide ?_
          obtain ⟨A6, c6, rfl, _, _⟩ := own8_shape HO6.out
          have HTL : Hid (∀ X : Option Addr, AtE w6 0 0 X 0 (L.drop k)) := hide (fun X => by rw [List.drop_of_length_le (by rw [HML.out]; exact Nat.le_refl _)]; exact AtE.nil _ _ _ _)
          by_cases hcck : cc = k
          · subst hcck
            go_wp2_with (at_builtin; go_must (refine wpList_append_exts _ rfl (.tmp 59) (.tmp 62) rfl w.heap.size (.slice A6 (cc + 1) c6) (cc + 1) (L.take cc ++ [x]) rfl HO6.out _ _ B (0) (0) (L.drop cc) rfl (HTL.out _) (by omega) S6.out.bel.size ?_); intro v7 w7 hown7 hg7 hat7; rw [show cc + 1 + (0) = cc + 1 by omega] at hown7; have HO7 := hide hown7; have S7 := hide (S6.out.grown hg7 HT6.out); clear hown7 hg7 hat7)
            obtain ⟨A7, c7, rfl, _, _⟩ := own8_shape HO7.out
            go_roundg (n - (i + 1))
            case measure => omega
            case rel =>
              refine ⟨i + 1, cc + 1, c7, A7, _, rfl, by go_num, by omega, Nat.le_refl _, by omega, HO7.out, S7.out.bel, HIN.out.1, fun z => ?_⟩
              rw [HNX.out, HIN.out.2, HMEM.out]
              exact Or.comm
          · have hlt9 : (k : Int) < cc := by omega
            go_wp2_with (at_builtin; go_must (refine wpList_append_exts _ rfl (.tmp 59) (.tmp 62) rfl w.heap.size (.slice A6 (k + 1) c6) (k + 1) (L.take k ++ [x]) rfl HO6.out _ _ (Option.map (fun x => x.add (k * 8)) B) (0) (cc - k) (L.drop k) rfl (HTL.out _) (by omega) S6.out.bel.size ?_); intro v7 w7 hown7 hg7 hat7; rw [show k + 1 + (0) = k + 1 by omega] at hown7; have HO7 := hide hown7; have S7 := hide (S6.out.grown hg7 HT6.out); clear hown7 hg7 hat7)
            obtain ⟨A7, c7, rfl, _, _⟩ := own8_shape HO7.out
            go_roundg (n - (i + 1))
            case measure => omega
            case rel =>
              refine ⟨i + 1, k + 1, c7, A7, _, rfl, by go_num, by omega, Nat.le_refl _, by omega, HO7.out, S7.out.bel, HIN.out.1, fun z => ?_⟩
              rw [HNX.out, HIN.out.2, HMEM.out]
              exact Or.comm

    · have hkn : i = n := by omega
      subst hkn
      go_wp2_with fail
      go_ret
      have hset : L = setL xs := setL_eq HRIS.out (fun z => by rw [HMEM.out z, List.take_of_length_le (by rw [HXL.out]; exact Nat.le_refl _)])
      exact ⟨_, rfl, by rw [← hset, HML.out]; exact HO.out, WB0.out⟩
end Go.Proofs.YtfpidnckmdiieaaGreatDoor
