/-
  The document's own timers: Tick; two rows of names. The one condition: ticks that an int holds.
-/
import Derived.Test.YtejcgicedjmedaaTmR5
import Derived.Test.YtejcgicedjmedaaLawTComes
import Derived.BigQuiet
namespace Go.Proofs.Ytejcgicedjmedaa
open Go.RowKit Go.Sort
set_option linter.unusedVariables false
set_option linter.unusedSimpArgs false

def tickL (L : TL) : TL := L.filterMap fun p => if p.2 = 1 then none else some (p.1, p.2 - 1)
def overL (L : TL) : List (List UInt8) := (L.filter fun p => decide (p.2 = 1)).map (·.1)
section
variable {L : TL} {F : List UInt8 → Nat} {j : Nat} {x : List UInt8 × Nat}
theorem take_one (hx : L[j]? = some x) : L.take (j + 1) = L.take j ++ [x] := by rw [List.take_add_one, hx]; rfl
theorem over_yes (hx : L[j]? = some x) (h : x.2 = 1) : overL (L.take (j + 1)) = overL (L.take j) ++ [x.1] ∧ tickL (L.take (j + 1)) = tickL (L.take j) := by
  rw [take_one hx]
  unfold overL tickL
  rw [List.filter_append, List.filterMap_append]
  simp [h]
theorem over_no (hx : L[j]? = some x) (h : x.2 ≠ 1) : overL (L.take (j + 1)) = overL (L.take j) ∧ tickL (L.take (j + 1)) = tickL (L.take j) ++ [(x.1, x.2 - 1)] := by
  rw [take_one hx]
  unfold overL tickL
  rw [List.filter_append, List.filterMap_append]
  simp [h]
theorem Rep.tick (h : Rep L F) : Rep (tickL L) (fun s => F s - 1) := by
  refine ⟨?_, fun s n => ?_⟩
  · unfold tickL
    rw [List.pairwise_filterMap]
    refine h.srt.imp fun {p q} hpq b hb b' hb' => ?_
    have hb : (if p.2 = 1 then none else some (p.1, p.2 - 1)) = some b := hb
    have hb' : (if q.2 = 1 then none else some (q.1, q.2 - 1)) = some b' := hb'
    split at hb
    · cases hb
    · split at hb'
      · cases hb'
      · injection hb with hb
        injection hb' with hb'
        rw [← hb, ← hb']
        exact hpq
  · unfold tickL
    rw [List.mem_filterMap]
    constructor
    · rintro ⟨p, hp, e⟩
      have h1 := (h.mem p.1 p.2).1 hp
      split at e
      · cases e
      · rename_i hne
        injection e with e
        injection e with e1 e2
        subst e1
        refine ⟨by omega, ?_⟩
        rw [h1.2]
        exact e2
    · rintro ⟨h0, hF⟩
      refine ⟨(s, F s), (h.mem s (F s)).2 ⟨by omega, rfl⟩, ?_⟩
      show (if F s = 1 then none else some (s, F s - 1)) = _
      rw [if_neg (by omega), hF]
theorem Rep.over (h : Rep L F) : Over F (overL L) := by
  have hs : (overL L).Pairwise (fun x y => x < y) := List.pairwise_map.2 ((h.srt.sublist List.filter_sublist).imp fun {p q} hpq => hpq)
  refine ⟨hs.imp fun {a b} hab e => ?_, fun s => ?_, hs.imp fun {a b} hab => ?_⟩
  · subst e
    exact List.lt_irrefl _ hab
  · unfold overL
    rw [List.mem_map]
    constructor
    · rintro ⟨p, hp, rfl⟩
      obtain ⟨hp1, hp2⟩ := List.mem_filter.1 hp
      have := ((h.mem p.1 p.2).1 hp1).2
      rw [this]
      exact of_decide_eq_true hp2
    · intro hF
      exact ⟨(s, 1), List.mem_filter.2 ⟨(h.mem s 1).2 ⟨by omega, hF⟩, by simp⟩, rfl⟩
  · exact decide_eq_true (List.le_of_lt hab)
end
theorem Over.uniq {F : List UInt8 → Nat} {ss ts : List (List UInt8)} (h : Over F ss) (k : Over F ts) : ss = ts := by
  refine List.Perm.eq_of_pairwise (le := fun a b => leB a b = true) (fun a b _ _ h1 h2 => ?_) h.2.2 k.2.2 ((List.perm_ext_iff_of_nodup h.1 k.1).2 fun s => (h.2.1 s).trans (k.2.1 s).symm)
  simp only [leB, decide_eq_true_eq] at h1 h2
  exact List.le_antisymm h1 h2
theorem ownS_far {w w' : World} {base n : Nat} {e : TypeId} {v : Value} {xs : List Value} {row : Option Nat} (h : w.ownsRow base e 1 v n xs) (hg : w.grownBy w' row) (hne : v.ownBlock = none ∨ v.ownBlock ≠ row) : w'.ownsRow base e 1 v n xs := ownG_row h hg hne
theorem cell_two_str (w : World) (o : Obj) (t : TypeId) (u : Value) : ∀ (j : Nat) (u' : Value), [u][j]? = some u' → ((w.alloc o).alloc (.cells #[u] t)).cell? ((⟨w.heap.size + 1, 0, none⟩ : Addr).add j) = some u' := by
  intro j u' h
  have := cell_one_new (w.alloc o) u t j u' h
  simpa using this
theorem one_tm2 (w : World) (o : Obj) {s : ByteArray} {z : Int} {m : Nat} (hz : z = m) : AtG tmL ((w.alloc o).alloc (.cells #[.string s, .int .i64 z] 52)) (w.heap.size + 1) (w.heap.size + 1 + 1) (some ⟨w.heap.size + 1, 0, none⟩) 1 [(s.data.toList, m)] := by
  have := one_tm (Blk.new (w.alloc o) 52 #[.string s, .int .i64 z]) hz
  simpa using this
set_option maxRecDepth 20000 in
set_option maxHeartbeats 4000000 in
theorem rt_tick (w : World) {B rp : Nat} {v : Value} {L : TL} {F : List UInt8 → Nat} (h : RtAt w B rp v L) (hr : Rep L F) (hL : L.length ≤ 32) (hF : ∀ s, F s ≤ 9223372036854775807) :
    Calls Try.prog 18 #[.pointer (some ⟨rp, 0, none⟩)] w fun e w' => ∃ A c, e = .returned (.slice A (overL L).length c) ∧
      w'.ownsRow w.heap.size 9 1 (.slice A (overL L).length c) (overL L).length ((overL L).map encStr) ∧ (∃ v', RtAt w' B rp v' (tickL L) ∧ ∀ g, v'.ownBlock = some g → w.heap.size ≤ g) ∧ w.grownBy w' (some rp) := by
  obtain ⟨A, c, rfl, hc1, hc2⟩ := h.shape
  obtain ⟨i0, hi, hz0, hz1, hz2⟩ := info_parts infoStr
  have H := hide h
  have c0 := h.cell
  have HR := hide hr
  have HF := hide hF
  clear h hr hF
  go_enter Try.func18, Try.ntmps18
  go_wp2_with fail
  go_loopw [3, 4, 5] (fun vo vl i wr => ∃ (j : Nat), i = .int .i64 j ∧ j ≤ L.length ∧ MidR w wr B rp (.slice A L.length c) L vl (tickL (L.take j)).length (tickL (L.take j)) ∧
      wr.ownsRow w.heap.size 9 1 vo (overL (L.take j)).length ((overL (L.take j)).map encStr) ∧ (vo.ownBlock = none ∨ vo.ownBlock ≠ vl.ownBlock)) (fun _ _ i _ => L.length - (intOf i).toNat)
  case atStart => exact ⟨0, rfl, Nat.zero_le _, MidR.start H.out, World.ownsRow_nil _ _ _ _, .inl rfl⟩
  case round =>
    obtain ⟨j, rfl, hj, hM, hO, hne⟩ := hrel
    have M := hide hM
    have O := hide hO
    have NE := hide hne
    have c1 := hM.at_.cell
    have hol : (overL (L.take j)).length ≤ 32 := by
      unfold overL
      rw [List.length_map]
      exact Nat.le_trans (List.length_filter_le _ _) (by rw [List.length_take]; omega)
    have htl : (tickL (L.take j)).length ≤ 32 := by
      unfold tickL
      exact Nat.le_trans (List.length_filterMap_le _ _) (by rw [List.length_take]; omega)
    clear hM hO hne c0
    by_cases hlt : j < L.length
    · obtain ⟨x, hx⟩ : ∃ x, L[j]? = some x := ⟨L[j], List.getElem?_eq_getElem hlt⟩
      obtain ⟨g, rfl, k0, k1⟩ := M.out.at_.at_ hx
      have k2 := k0
      rw [Nat.zero_add] at k2
      have k3 := k1
      rw [Nat.zero_add] at k3
      have HX := hide hx
      have hx0 : x.2 ≠ 0 ∧ x.2 ≤ 9223372036854775807 := by
        have := (HR.out.mem x.1 x.2).1 (List.mem_of_getElem? hx)
        have h2 := HF.out x.1
        rw [this.2] at h2
        exact ⟨this.1, h2⟩
      obtain ⟨z, hz⟩ : ∃ z : Int, (x.2 : Int) = z := ⟨_, rfl⟩
      rw [hz] at k1 k3
      have HZ := hide hz
      have hzb : 1 ≤ z ∧ z ≤ 9223372036854775807 := by omega
      obtain ⟨hz1', hz2'⟩ := hzb
      clear hx hz
      by_cases h1 : z = 1
      · subst h1
        have HS := hide (over_yes HX.out (show x.2 = 1 by have := HZ.out; omega))
        have HB := hide (show (overL (L.take j)).length + 1 ≤ maxLen ∧ ((overL (L.take j)).length + 1) * 16 ≤ 140737488355328 from ⟨by unfold maxLen; omega, by omega⟩)
        have HSZ := hide M.out.grown.size
        go_wp2_with (first
          | (at_builtin; refine wpList_append_own_at _ rfl _ _ 35 rfl w.heap.size 9 i0 (.string ⟨#[]⟩) 1 16 Try.underlying35 hi hz0 hz1 hz2 rfl (by decide) u3 _ _ rfl ((O.out.alloc _).alloc _) ⟨wr.heap.size + 1, 0, none⟩ 1 1 [encStr x.1] rfl rfl (cell_two_str _ _ _ _) (by simp [Value.oneCell', encStr]) HB.out.1 HB.out.2 (by have := HSZ.out; simp; omega) ?_; intro v' w4 o4 g4 n4 a4; have O4 := hide o4; have G4 := hide g4; have A4 := hide a4; clear o4 g4 n4 a4; go_frame)
          | go_in)
        have hM2 := ((M.out.alloc (.cells #[.string ⟨x.1.toArray⟩, .int .i64 1] 52)).alloc (.cells #[encStr x.1] 9))
        go_roundw
        case rel =>
          obtain ⟨e1, e2⟩ := hM2.far G4.out (fun g hg => (O.out.lt g hg).1) H.out
          refine ⟨j + 1, by go_num, by omega, ⟨e1, ?_, e2, ?_⟩, ?_, ?_⟩
          · rw [HS.out.2]
            exact ownG_row hM2.own G4.out (by
              rcases NE.out with h | h
              · by_cases e : u4.ownBlock = none
                · exact .inl e
                · exact .inr (by rw [h]; exact e)
              · exact .inr (fun e => h e.symm))
          · exact hM2.new
          · rw [HS.out.1]
            simpa using O4.out
          · rcases A4.out with a | a
            · rw [a]; exact NE.out
            · refine .inr fun e => ?_
              rw [a] at e
              have := (M.out.own.lt _ e.symm).2
              simp at this
              omega
        case measure => simp [intOf]; omega
      · have hz3 : (z == 1) = false := beq_eq_false_iff_ne.2 h1
        have HS := hide (over_no HX.out (show x.2 ≠ 1 by have := HZ.out; omega))
        have HB := hide (show (tickL (L.take j)).length + 1 ≤ 100 by omega)
        have HN := hide (show z - 1 = ((x.2 - 1 : Nat) : Int) by have := HZ.out; omega)
        obtain ⟨sb, hsb⟩ : ∃ sb : ByteArray, (⟨x.1.toArray⟩ : ByteArray) = sb := ⟨_, rfl⟩
        have HSB := hide (show sb.data.toList = x.1 by rw [← hsb])
        rw [hsb] at k0 k2
        clear hsb
        go_wp2_with (first
          | (at_builtin; (with_reducible refine wpList_app rfl (.tmp 31) (.tmp 38) rfl B rfl ((M.out.alloc _).alloc _).own rfl (one_tm2 wr _ HN.out) HB.out ((M.out.alloc _).alloc _).base ?_); intro v3 w3 o3 g3 a3; have M3 := hide (((M.out.alloc _).alloc _).app H.out o3 g3 a3); have O3 := hide (ownS_far ((O.out.alloc _).alloc _) g3 NE.out); have A3 := hide a3; clear o3 g3 a3; go_frame)
          | go_in)
        go_roundw
        case rel =>
          refine ⟨j + 1, by go_num, by omega, ?_, ?_, ?_⟩
          · have := M3.out
            rw [HSB.out] at this
            rw [HS.out.2, List.length_append]
            exact this
          · rw [HS.out.1]
            exact O3.out
          · rcases A3.out with a | a
            · rw [a]; exact NE.out
            · by_cases e : u3.ownBlock = none
              · exact .inl e
              · refine .inr fun e2 => ?_
                rw [a] at e2
                have := (O.out.lt _ e2).2
                simp at this
                omega
        case measure => simp [intOf]; omega
    · obtain rfl : j = L.length := by omega
      rw [List.take_length] at M O
      obtain ⟨A2, c2, rfl, _, _⟩ := ownG_shape M.out.own
      obtain ⟨A3, c3, rfl, _, _⟩ := own_shape O.out
      have f1 := M.out.at_.blk.frozen 0
      have HLY := hide (M.out.lay H.out rfl)
      have HO := hide (ownS_far O.out (show wr.grownBy (wr.setCell ⟨rp, 0, none⟩ (.slice A2 (tickL L).length c2)) (some rp) from grown_setCell (grown_refl wr _) (.inl rfl) _) (by
        by_cases e : (Value.slice A3 (overL L).length c3).ownBlock = none
        · exact .inl e
        · refine .inr fun e2 => ?_
          have := (O.out.lt _ e2).1
          have := H.out.blk.lt
          omega))
      go_wp2
      go_ret
      exact ⟨A3, c3, rfl, HO.out, ⟨_, HLY.out.1, M.out.new⟩, HLY.out.2⟩
set_option maxRecDepth 20000 in
set_option maxHeartbeats 2000000 in
/-- two rows of the same names -/
theorem names_same (w : World) {lo lo' c c' : Nat} {A A' : Option Addr} {ss : List (List UInt8)} (h : w.ownsRow lo 9 1 (.slice A ss.length c) ss.length (ss.map encStr)) (h' : w.ownsRow lo' 9 1 (.slice A' ss.length c') ss.length (ss.map encStr)) (hl : ss.length ≤ 32) :
    Calls Try.prog 17 #[.slice A ss.length c, .slice A' ss.length c'] w fun e w' => e = .returned (.bool true) ∧ ∃ q, w' = w.drewN q := by
  have H := hide h
  have H' := hide h'
  clear h h'
  go_enter Try.func17, Try.ntmps17
  go_wp2_with fail
  go_loopw [5] (fun i wr => ∃ (j q : Nat), i = .int .i64 j ∧ j ≤ ss.length ∧ wr = w.drewN q) (fun i _ => ss.length - (intOf i).toNat)
  case atStart => exact ⟨0, 0, rfl, Nat.zero_le _, rfl⟩
  case round =>
    obtain ⟨j, q, rfl, hj, rfl⟩ := hrel
    by_cases hlt : j < ss.length
    · obtain ⟨g, rfl, _, _, hcells⟩ := row_cells H.out (by omega)
      obtain ⟨g', rfl, _, _, hcells'⟩ := row_cells H'.out (by omega)
      obtain ⟨x, hx⟩ : ∃ x, ss[j]? = some x := ⟨_, List.getElem?_eq_getElem hlt⟩
      have c0 : w.cell? ⟨g, 0 + j, none⟩ = some (.string ⟨x.toArray⟩) := hcells j x hx
      have c1 : w.cell? ⟨g', 0 + j, none⟩ = some (.string ⟨x.toArray⟩) := hcells' j x hx
      have c2 := c0
      rw [Nat.zero_add] at c2
      have c3 := c1
      rw [Nat.zero_add] at c3
      clear hcells hcells' hx
      go_wp2
      go_quiet (fail)
      all_goals
        go_wp2
        go_roundw
        case rel => exact ⟨j + 1, _, by go_num, by omega, rfl⟩
        case measure => simp [intOf]; omega
    · obtain rfl : j = ss.length := by omega
      go_wp2
      go_ret
      exact ⟨rfl, q, rfl⟩
end Go.Proofs.Ytejcgicedjmedaa
