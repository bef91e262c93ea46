/-
  Timers: Tick, Next. No condition.
-/
import Derived.Test.YtejcgicedjmedaaTmP
import Derived.Test.YtejcgicedjmedaaArgs
import Derived.Sort.OwnSorted
namespace Go.Proofs.Ytejcgicedjmedaa
open Go.RowKit Go.Sort
open Go.Maps (Keyed IsMap Tidy)
set_option linter.unusedVariables false
set_option linter.unusedSimpArgs false

/-- what is left while a tick goes by -/
def midF (F : List UInt8 → Nat) (left : Lit → Bool) : List UInt8 → Nat := fun s => if left (.string s) then F s else F s - 1
/-- whose last tick it was, so far -/
def Coll (F : List UInt8 → Nat) (left : Lit → Bool) (ss : List (List UInt8)) : Prop := ss.Nodup ∧ ∀ s, s ∈ ss ↔ (F s = 1 ∧ left (.string s) = false)
abbrev strk (left : Lit → Bool) (x : List UInt8) : Lit → Bool := fun z => left z && !z.sameKey (.string x)
theorem strk_same (left : Lit → Bool) (x : List UInt8) : strk left x (.string x) = false := by simp [strk, Lit.sameKey]
theorem strk_other (left : Lit → Bool) {x s : List UInt8} (h : s ≠ x) : strk left x (.string s) = left (.string s) := by simp [strk, Lit.sameKey, h]
section
variable {D : DataW Unit} {F : List UInt8 → Nat} {left : Lit → Bool} {ss : List (List UInt8)} {x : List UInt8}
theorem midF_start (hd : TmD D F) : midF F (Maps.has D) = F := by
  funext s
  unfold midF
  rw [(hd s).1]
  by_cases h : F s = 0
  · simp [h]
  · simp [h]
theorem midF_end (h : ∀ z, left z = false) : midF F left = fun s => F s - 1 := by
  funext s
  unfold midF
  rw [h]
  rfl
theorem midF_step (h : left (.string x) = true) : midF F (strk left x) = updF (midF F left) x (F x - 1) := by
  funext s
  unfold updF midF
  by_cases e : s = x
  · subst e
    rw [if_pos rfl, strk_same]
    rfl
  · rw [if_neg e, strk_other left e]
theorem coll_start (hd : TmD D F) : Coll F (Maps.has D) [] := ⟨List.nodup_nil, fun s => by
  rw [(hd s).1]
  constructor
  · intro h; cases h
  · rintro ⟨h1, h2⟩
    rw [h1] at h2
    cases h2⟩
theorem coll_yes (h : Coll F left ss) (hl : left (.string x) = true) (hF : F x = 1) : Coll F (strk left x) (ss ++ [x]) := by
  have hnew : x ∉ ss := fun hx => by have := ((h.2 x).1 hx).2; rw [hl] at this; cases this
  refine ⟨List.nodup_append.2 ⟨h.1, by simp, fun a ha b hb => by simp at hb; subst hb; exact fun e => hnew (e ▸ ha)⟩, fun s => ?_⟩
  by_cases e : s = x
  · subst e
    rw [strk_same]
    simp [hF]
  · rw [strk_other left e, List.mem_append, h.2 s]
    simp [e]
theorem coll_no (h : Coll F left ss) (hF : F x ≠ 1) : Coll F (strk left x) ss := by
  refine ⟨h.1, fun s => ?_⟩
  by_cases e : s = x
  · subst e
    rw [h.2 s]
    exact ⟨fun h => absurd h.1 hF, fun h => absurd h.1 hF⟩
  · rw [strk_other left e, h.2 s]
/-- what a tick tells -/
def Over (F : List UInt8 → Nat) (ss : List (List UInt8)) : Prop := ss.Nodup ∧ (∀ s, s ∈ ss ↔ F s = 1) ∧ ss.Pairwise (fun x y => leB x y = true)
theorem over_sort (h : Coll F left ss) (hl : ∀ z, left z = false) : Over F (ss.mergeSort leB) := by
  have tr : ∀ a b c : List UInt8, leB a b = true → leB b c = true → leB a c = true := fun a b c h1 h2 => by simp only [leB, decide_eq_true_eq] at *; exact List.le_trans h1 h2
  have to : ∀ a b : List UInt8, (leB a b || leB b a) = true := fun a b => by simp only [leB, Bool.or_eq_true, decide_eq_true_eq]; exact List.le_total a b
  refine ⟨(List.mergeSort_perm ss leB).nodup_iff.2 h.1, fun s => ?_, List.pairwise_mergeSort tr to ss⟩
  rw [(List.mergeSort_perm ss leB).mem_iff, h.2 s, hl]
  simp
end
theorem own_sorted {w : World} {base g cap n : Nat} {e : TypeId} {os : Array Obj} {cur : Array Value} {ss : List (List UInt8)} (hbase : base ≤ g) (hb : w.heap[g]? = some (.cells cur e (0, 0)))
    (h1 : ss.length ≤ cap) (h2 : cap ≤ maxLen) (h3 : cur.size = cap * 1) :
    (grow (putRow encStr (Sort.ahead w n) g 0 (ss.mergeSort leB).toArray) os).ownsRow base e 1 (.slice (some ⟨g, 0, none⟩) (ss.mergeSort leB).length cap) (ss.mergeSort leB).length ((ss.mergeSort leB).map encStr) := by
  have := ownsRow_sorted (os := os) (n := n) (ss := ss) (ts := ss.mergeSort leB) (by simp) hbase hb h1 h2 h3
  rw [List.length_mergeSort]
  exact this
theorem infoStr : (Try.prog.info? 9).map (fun i => (i.zero, i.size, i.bytes)) = some (some (.string ⟨#[]⟩), 1, 16) := by kernel_rfl
set_option maxRecDepth 20000 in
set_option maxHeartbeats 3000000 in
theorem tm_tick (w : World) {tp b : Nat} {F : List UInt8 → Nat} (h : TmAt w tp b F) :
    Calls Try.prog 16 #[.pointer (some ⟨tp, 0, none⟩)] w fun e w' => ∃ A c ss, e = .returned (.slice A ss.length c) ∧ Over F ss ∧ ss.length ≤ 32 ∧
      w'.ownsRow w.heap.size 9 1 (.slice A ss.length c) ss.length (ss.map encStr) ∧ TmAt w' tp b (fun s => F s - 1) ∧ w.grownBy w' (some b) := by
  obtain ⟨D0, hm, hd⟩ := h.map
  have c0 := h.cell
  have HA := hide h
  have HT := hide (Blk.lt h.blk)
  have hbl := h.ltb
  have HBL := hide hbl
  obtain ⟨i0, hi, hz0, hz1, hz2⟩ := info_parts infoStr
  have HNE := hide h.ne
  clear h
  go_enter Try.func16, Try.ntmps16
  go_wp2_with (first
    | (at_range; refine wpList_range_own _ rfl _ 43 rfl 9 3 keyedS Try.underlying43 _ b 32 _ rfl hm ?_; intro w0 hrg0 hg0 hs0)
    | go_in)
  go_frame
  go_loopw [3] (fun v wr => ∃ (D : DataW Unit) (left : Lit → Bool) (cnt : Nat) (ss : List (List UInt8)), wr.ranges Try.prog 9 (plainElem Try.prog 3) b w.heap.size 32 D left cnt ∧ TmD D (midF F left) ∧ Coll F left ss ∧ ss.length + cnt ≤ 32 ∧
      wr.ownsRow w.heap.size 9 1 v ss.length (ss.map encStr) ∧ Blk wr tp 45 #[.map (some b)] ∧ w.grownBy wr (some b)) (fun _ wr => wr.rangeLeft b w.heap.size)
  case atStart =>
    exact ⟨D0, _, _, [], hrg0, by rw [midF_start hd]; exact hd, coll_start hd, by have := hm.size_le; simpa using this, World.ownsRow_nil _ _ _ _, HA.out.blk.grown hg0 (by simp), hg0.but _⟩
  case round =>
    obtain ⟨D, left, cnt, ss, hrg, hmid, hC, hcs, hrow, hblk, hgw⟩ := hrel
    have HM := hide hmid
    have HCC := hide hC
    have HB := hide hblk
    clear hmid hC hblk c0 hd
    go_wp2_with (first
      | (at_next; refine wpList_next_ranges _ rfl _ rfl 9 keyedS (plainElem Try.prog 3) encStr (Value.int .i64) (fun key kl hk => by obtain ⟨x, hx, _⟩ := Maps.keyOf_str Try.underlying9 hk; exact ⟨x, hx⟩) (fun v y hv => by obtain ⟨c, rfl, _⟩ := plainElem_int_inv Try.underlying3 hv; exact ⟨c, rfl⟩) b w.heap.size 32 _ _ _ rfl hrg ?_ ?_)
      | go_in)
    · intro hc0 hl0
      have HL := hide hl0
      have hT : TmAt wr tp b (fun s => F s - 1) := ⟨HNE.out, HB.out, D, hrg.owns, by have := HM.out; rw [midF_end hl0] at this; exact this⟩
      have HTT := hide hT
      have HGW := hide hgw
      have hov := hide (over_sort HCC.out hl0)
      have HLEN := hide (show (ss.mergeSort leB).length ≤ 32 by rw [List.length_mergeSort]; omega)
      clear hl0 hT
      rcases hrow.2 with ⟨rfl, hnil⟩ | ⟨g, cap, cur, rfl, hbase, hb, h1, h2, h3, h4⟩
      · have hss : ss = [] := List.eq_nil_of_length_eq_zero hnil
        subst hss
        clear hrow hrg hgw
        go_wp2_with fail
        refine (Try.slices_Sort_string_none none 0 wr).mono ?_
        rintro e w' ⟨rfl, rfl⟩
        go_wp2
        go_ret
        exact ⟨none, 0, [], rfl, by simpa using hov.out, by simp, World.ownsRow_nil _ _ _ _, HTT.out, HGW.out⟩
      · have hH : Holds encStr wr g 0 ss.toArray := holds_of_block hb (by simpa using h4)
        have hgl : g < wr.heap.size := (Array.getElem?_eq_some_iff.1 hb).1
        have hc := Try.slices_Sort_string g 0 cap ss wr hH hgl (by omega)
        have HGB := hide (show g ≠ b ∧ g ≠ tp by have := HBL.out; have := HT.out; omega)
        have HBB := hide hb
        have HCU := hide h3
        clear hH hrow hrg hgw hb h3 h4
        go_wp2_with fail
        refine hc.mono ?_
        rintro e w' ⟨rfl, nn, os, rfl⟩
        have hg2 := grownBy_sorted (w := wr) (g := g) (n := nn) (os := os) (ss.mergeSort leB).toArray
        have G2 := hide hg2
        have O2 := hide (own_sorted (n := nn) (os := os) hbase HBB.out h1 h2 HCU.out)
        obtain ⟨w2, hw2⟩ : ∃ w2, grow (putRow encStr (Sort.ahead wr nn) g 0 (ss.mergeSort leB).toArray) os = w2 := ⟨_, rfl⟩
        have e1 : grow (putRow encStr (Sort.ahead wr nn) g 0 (ss.mergeSort fun x y => decide (x ≤ y)).toArray) os = w2 := hw2
        rw [e1]
        rw [hw2] at G2 O2
        clear hg2 e1 hw2 hc
        go_wp2
        go_ret
        refine ⟨some ⟨g, 0, none⟩, cap, ss.mergeSort leB, by rw [List.length_mergeSort]; rfl, hov.out, HLEN.out, O2.out, HTT.out.grown G2.out (fun e => HGB.out.2 (by injection e with e; exact e.symm)) (fun e => HGB.out.1 (by injection e with e; exact e.symm)), ?_⟩
        exact HGW.out.andThen G2.out (fun j hj => by cases hj; exact .inl hbase)
    · intro x c kl yd yp w2 cnt2 hkey hlk hv hat hrg2 hlt hg2 hs2 hen
      obtain ⟨x', ex, rfl, hxl⟩ := Maps.keyOf_str Try.underlying9 hkey
      obtain rfl : x = x' := encStr_inj ex
      obtain ⟨c', ec, ey, hwc⟩ := plainElem_int_inv Try.underlying3 hv
      cases ec
      cases ey
      have hm1 := HM.out x
      have hmx : midF F left x = F x := by unfold midF; rw [hlk]; rfl
      rw [hmx] at hm1
      have hFc : (F x : Int) = c := by
        have := hat (.lit (.int .i64 0))
        rw [hm1.2] at this
        injection this with this
        injection this
      have hhas : Maps.has D (.string x) = true := Maps.has_true_of_atKey hat
      have hF0 : F x ≠ 0 := by
        have := hm1.1
        rw [hhas] at this
        simpa using this.symm
      have hrow2 := hrow.kept hg2 (Or.inr (row_ne_iter hrow hrg).symm)
      have hgw2 := hgw.andThen hg2 (fun j hj => by cases hj; exact Or.inl (Nat.le_refl _))
      have hblk2 := HB.out.grown hg2 (fun e => by have := HT.out; injection e with e; omega)
      have c2 : w2.cell? ⟨tp, 0, none⟩ = some (.map (some b)) := by rw [hblk2.cell]; rfl
      have HF := hide hFc
      have HF0 := hide hF0
      have HMS := hide (midF_step (F := F) hlk)
      have HHAS := hide hhas
      have HLK := hide hlk
      have HKEY := hide hkey
      have HAT := hide hat
      have HROW := hide hrow2
      have HGW := hide hgw2
      have HBK := hide hblk2
      have HLT := hide hlt
      have HLE := hide hrg.left_eq
      have HSZ := hide hgw2.size
      clear hs2 hFc hF0 hm1 hmx hhas hlk hkey hat hv hblk2 hrow2 hgw2 hrow hgw ex hlt hg2 hrg
      by_cases hc : 1 < c
      · have hw1 : (Lit.int .i64 (c - 1)).wf = true := WalkArith.wf_i64 (by have := i64_of_wf hwc; omega)
        have HW1 := hide hw1
        have hb2 := (i64_of_wf hwc).2
        clear hw1
        go_wp2_with (first
          | (at_lookup; refine wpList_lookup_own_int _ rfl _ _ 43 rfl 9 3 .i64 keyedS Try.underlying43 Try.underlying3 (zeroI _) b 32 _ rfl hrg2.owns _ _ rfl HKEY.out ?_; intro y hy hwy; (obtain rfl : c = y := by rw [HAT.out] at hy; injection hy with hy; injection hy); clear hy hwy)
          | (at_mapUpdate; refine wpList_put_ranges _ rfl _ _ _ 43 rfl 9 3 keyedS Try.underlying43 _ b w.heap.size 32 _ _ _ rfl hrg2 (by unfold maxLen; decide) _ _ _ rfl rfl HKEY.out _ [] (plain_int HW1.out) HHAS.out ?_; intro w3 hrg3 ht3; go_frame)
          | go_in)
        go_roundw
        case rel =>
          have hrg3' := hrg3
          refine ⟨_, _, cnt2, ss, hrg3, ?_, coll_no HCC.out (by have := HF.out; omega), by have := HLT.out; omega, HROW.out.kept ht3.grown (Or.inr (row_ne_low HROW.out HBL.out).symm), HBK.out.grown ht3.grown (fun e => HNE.out (by injection e)), HGW.out.andThen ht3.grown (fun j hj => .inr hj)⟩
          show TmD _ (midF F (strk left x))
          rw [HMS.out]
          have hp := HM.out.put (n := F x - 1) hrg2.owns.isMap x (by have := HF.out; omega)
          rw [show ((F x - 1 : Nat) : Int) = c - 1 by have := HF.out; omega] at hp
          exact hp
        case measure => rw [hrg3.left_eq, HLE.out]; exact HLT.out
      · have hc1 : c = 1 := by have := HF.out; have := HF0.out; omega
        subst hc1
        go_wp2_with (first
          | (at_delete; refine wpList_delete_ranges _ rfl _ _ 43 9 rfl 3 keyedS Try.underlying43 _ b w.heap.size 32 _ _ _ rfl hrg2 _ _ rfl HKEY.out ?_; intro w3 cnt3 hrg3 hle3 ht3; rw [Maps.strike_twice] at hrg3; have HROW3 := hide (HROW.out.kept ht3.grown (Or.inr (row_ne_low HROW.out HBL.out).symm)); have HT3 := hide ht3; have HLE3 := hide hle3; have HS3 := hide ht3.grown.size; clear ht3 hle3 hrg2 c2)
          | (at_builtin; refine wpList_append_own _ rfl _ _ 35 rfl w.heap.size 9 i0 (.string ⟨#[]⟩) 1 16 Try.underlying35 hi hz0 hz1 hz2 rfl (by decide) _ _ _ rfl (HROW3.out.alloc _) ⟨w3.heap.size, 0, none⟩ 1 1 [encStr x] rfl rfl (cell_one_new _ _ _) (by simp [Value.oneCell', encStr]) (by unfold maxLen at *; omega) (by omega) (by have := HS3.out; have := HSZ.out; simp; omega) ?_; intro v' w4 hown' hg4 hnil4; go_frame)
          | go_in)
        have hrg4 := (hrg3.alloc _).kept hg4 (row_ne_low HROW3.out HBL.out) (row_ne_iter HROW3.out hrg3)
        go_roundw
        case rel =>
          refine ⟨_, _, cnt3, ss ++ [x], hrg4, ?_, coll_yes HCC.out HLK.out (by have := HF.out; omega), by have := HLT.out; have := HLE3.out; simp; omega, by simpa using hown', ?_, ?_⟩
          · show TmD _ (midF F (strk left x))
            rw [HMS.out]
            have hp := HM.out.del x
            rw [show F x - 1 = 0 by have := HF.out; omega]
            exact hp
          · have h3 := HBK.out.grown HT3.out.grown (fun e => HNE.out (by injection e))
            exact (h3.alloc _).grown hg4 (row_ne_low HROW3.out HT.out)
          · have h3 := HGW.out.andThen HT3.out.grown (row := some b) (fun j hj => .inr hj)
            exact (grown_alloc h3 _).andThen hg4 (fun j hj => .inl (HROW3.out.lt j hj).1)
        case measure => rw [hrg4.left_eq, HLE.out]; have := HLT.out; have := HLE3.out; omega
end Go.Proofs.Ytejcgicedjmedaa
