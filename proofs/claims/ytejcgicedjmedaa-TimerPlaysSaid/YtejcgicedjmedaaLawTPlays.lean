/-
  TimerPlays returns true, whatever slice of acts comes in; what was there stays as it was. The one condition: it fits memory.
-/
import Derived.Test.YtejcgicedjmedaaTmR6
import Derived.Test.YtejcgicedjmedaaTmL
namespace Go.Proofs.Ytejcgicedjmedaa
open Go.RowKit
set_option linter.unusedVariables false
set_option linter.unusedSimpArgs false

/-- timers of the call's own, and the document's beside them -/
structure PairAt (w0 wx : World) (tp b B rp : Nat) (v : Value) (F : List UInt8 → Nat) (L : TL) : Prop where
  new : NewTm w0 wx tp b F
  rt : RtAt wx B rp v L
  lo : tp < B ∧ b < B ∧ w0.heap.size ≤ B
section
variable {w0 wx w' : World} {tp b B rp : Nat} {v v' : Value} {F G : List UInt8 → Nat} {L L' : TL}
theorem PairAt.own_ne (h : PairAt w0 wx tp b B rp v F L) {i : Nat} (hi : i < B) : v.ownBlock = none ∨ v.ownBlock ≠ some i := by
  by_cases e : v.ownBlock = none
  · exact .inl e
  · refine .inr fun e2 => ?_
    have := (h.rt.own.lt i e2).1
    omega
theorem PairAt.prog (h : PairAt w0 wx tp b B rp v F L) (k : TmAt w' tp b G) (hg : wx.grownBy w' (some b)) : PairAt w0 w' tp b B rp v G L :=
  ⟨h.new.step k hg, h.rt.grown hg (fun e => by injection e with e; have := h.rt.lo; have := h.lo; omega) (h.own_ne h.lo.2.1), h.lo⟩
theorem PairAt.grown_ (h : PairAt w0 wx tp b B rp v F L) (k : RtAt w' B rp v' L') {g : Nat} (hg : wx.grownBy w' (some g)) (h1 : tp ≠ g) (h2 : b ≠ g) (h3 : w0.heap.size ≤ g) : PairAt w0 w' tp b B rp v' F L' :=
  ⟨⟨h.new.at_.grown hg (fun e => h1 (by injection e)) (fun e => h2 (by injection e)), h.new.lo, h.new.lob, h.new.below.grown hg h.new.below.size (fun j hj => by cases hj; exact h3)⟩, k, h.lo⟩
theorem PairAt.doc (h : PairAt w0 wx tp b B rp v F L) (k : RtAt w' B rp v' L') (hg : wx.grownBy w' (some rp)) : PairAt w0 w' tp b B rp v' F L' := by
  have h1 := h.rt.lo
  have h2 := h.lo
  exact h.grown_ k hg (by omega) (by omega) (by omega)
theorem PairAt.over (h : PairAt w0 wx tp b B rp v F L) (hb : Below wx.heap.size wx w') : PairAt w0 w' tp b B rp v F L :=
  ⟨h.new.over hb, h.rt.grown (grown_of_below hb none) (by simp) (by by_cases e : v.ownBlock = none; exact .inl e; exact .inr e), h.lo⟩
theorem PairAt.drewN (h : PairAt w0 wx tp b B rp v F L) (q : Nat) : PairAt w0 (wx.drewN q) tp b B rp v F L := h.over ((Below.refl _ _).grown (grown_drewN (grown_refl wx none) q) (Nat.le_refl _) (fun j hj => by cases hj))
theorem PairAt.len (h : PairAt w0 wx tp b B rp v F L) (r : Rep L F) : L.length ≤ 32 := by
  obtain ⟨n, hn, hc⟩ := h.new.at_.cnt
  rw [r.cnt.uniq hc]
  exact hn
end
/-- what Start answers, what it leaves -/
def startE (F : List UInt8 → Nat) (L : TL) (t : List UInt8) (n : Int) : Int := if n < 1 then 1 else if F t = 0 ∧ 32 ≤ L.length then 6 else 0
def startF (F : List UInt8 → Nat) (L : TL) (t : List UInt8) (n : Int) : List UInt8 → Nat := if n < 1 then F else if F t = 0 ∧ 32 ≤ L.length then F else updF F t n.toNat
section
variable {F : List UInt8 → Nat} {L : TL} {t : List UInt8} {n : Int}
theorem start_1 (h : n < 1) : startE F L t n = 1 ∧ startF F L t n = F := ⟨if_pos h, if_pos h⟩
theorem start_6 (h : ¬ n < 1) (h2 : F t = 0 ∧ 32 ≤ L.length) : startE F L t n = 6 ∧ startF F L t n = F := ⟨(if_neg h).trans (if_pos h2), (if_neg h).trans (if_pos h2)⟩
theorem start_0 (h : ¬ n < 1) (h2 : ¬ (F t = 0 ∧ 32 ≤ L.length)) : startE F L t n = 0 ∧ startF F L t n = updF F t n.toNat := ⟨(if_neg h).trans (if_neg h2), (if_neg h).trans (if_neg h2)⟩
end
section
variable {w0 wx w' : World} {tp b B rp : Nat} {v v' : Value} {F G : List UInt8 → Nat} {L L' : TL}
theorem PairAt.start_ (h : PairAt w0 wx tp b B rp v F L) (r : Rep L F) (s : ByteArray) (hs : s.size ≤ 140737488351232) (n : Int) (hn : (Lit.int .i64 n).wf = true) :
    Calls Try.prog 10 #[.pointer (some ⟨tp, 0, none⟩), .string s, .int .i64 n] wx fun e w' => e = .returned (.int .i64 (startE F L s.data.toList n)) ∧ wx.grownBy w' (some b) ∧ PairAt w0 w' tp b B rp v (startF F L s.data.toList n) L := by
  refine (tm_start wx h.new.at_ s (Nat.le_trans hs (by decide)) n hn).mono ?_
  have hl := h.len r
  rintro e w1 (⟨rfl, h1, rfl⟩ | ⟨rfl, h1, h2, h3, rfl⟩ | ⟨rfl, h1, h2, h3, h4⟩)
  · rw [(start_1 h1).1, (start_1 h1).2]
    exact ⟨rfl, grown_refl _ _, h⟩
  · have h32 := r.cnt.uniq h3
    have hh := start_6 (F := F) (L := L) (t := s.data.toList) (n := n) (by omega) ⟨h2, by omega⟩
    rw [hh.1, hh.2]
    exact ⟨rfl, grown_refl _ _, h⟩
  · have hno : ¬ (F s.data.toList = 0 ∧ 32 ≤ L.length) := fun ⟨a, c⟩ => by
      rcases h2 with h2 | h2
      · exact h2 a
      · have := r.cnt
        rw [show L.length = 32 by omega] at this
        exact h2 this
    have hh := start_0 (F := F) (L := L) (t := s.data.toList) (n := n) (by omega) hno
    rw [hh.1, hh.2]
    exact ⟨rfl, h4, h.prog h3 h4⟩
theorem PairAt.dstart_ (h : PairAt w0 wx tp b B rp v G L) (r : Rep L F) (hl : L.length ≤ 32) (s : ByteArray) (n : Int) :
    Calls Try.prog 11 #[.pointer (some ⟨rp, 0, none⟩), .string s, .int .i64 n] wx fun e w' => e = .returned (.int .i64 (startE F L s.data.toList n)) ∧ ∃ v' L', wx.grownBy w' (some rp) ∧ PairAt w0 w' tp b B rp v' G L' ∧ Rep L' (startF F L s.data.toList n) := by
  refine (rt_start wx h.rt r hl s n).mono ?_
  rintro e w1 (⟨rfl, h1, rfl⟩ | ⟨rfl, h1, h2, h3, rfl⟩ | ⟨rfl, h1, h2, v', L', h3, h4, h5⟩)
  · rw [(start_1 h1).1, (start_1 h1).2]
    exact ⟨rfl, v, L, grown_refl _ _, h, r⟩
  · have hh := start_6 (F := F) (L := L) (t := s.data.toList) (n := n) (by omega) ⟨h2, h3⟩
    rw [hh.1, hh.2]
    exact ⟨rfl, v, L, grown_refl _ _, h, r⟩
  · have hno : ¬ (F s.data.toList = 0 ∧ 32 ≤ L.length) := fun ⟨a, c⟩ => by
      rcases h2 with h2 | h2
      · exact h2 a
      · omega
    have hh := start_0 (F := F) (L := L) (t := s.data.toList) (n := n) (by omega) hno
    rw [hh.1, hh.2]
    exact ⟨rfl, v', L', h5, h.doc h3 h5, h4⟩
end
abbrev FitF (F : List UInt8 → Nat) : Prop := ∀ s, F s ≤ 9223372036854775807
theorem fit_start {F : List UInt8 → Nat} {L : TL} {t : List UInt8} {n : Int} (h : FitF F) (hn : (Lit.int .i64 n).wf = true) : FitF (startF F L t n) := fun s => by
  have h1 := (i64_of_wf hn).2
  unfold startF
  split
  · exact h s
  · split
    · exact h s
    · unfold updF
      split
      · omega
      · exact h s
theorem fit_upd {F : List UInt8 → Nat} {t : List UInt8} (h : FitF F) : FitF (updF F t 0) := fun s => by
  unfold updF
  split
  · omega
  · exact h s
/-- a row of names that may be written over -/
def Spoil (wx : World) (lo B rp : Nat) (v : Value) (A : Option Addr) (n : Nat) : Prop := n = 0 ∨ ∃ g cs, A = some ⟨g, 0, none⟩ ∧ Blk wx g 9 cs ∧ n ≤ cs.size ∧ lo ≤ g ∧ v.ownBlock ≠ some g
theorem Spoil.of {wx : World} {lo B rp n c : Nat} {v : Value} {A : Option Addr} {xs : List Value} (h : wx.ownsRow lo 9 1 (.slice A n c) n xs) (hv : ∀ g, A = some ⟨g, 0, none⟩ → v.ownBlock ≠ some g) : Spoil wx lo B rp v A n := by
  rcases h.2 with ⟨_, h0⟩ | ⟨g, cap, cur, he, h1, h2, h3, _, h5, _⟩
  · exact .inl h0
  · injection he with he
    exact .inr ⟨g, cur, he, h2, by omega, h1, hv g he⟩
set_option maxRecDepth 20000 in
set_option maxHeartbeats 8000000 in
theorem tplays_any (w : World) (A : Option Addr) (n c : Nat) (xd : Nat → Int) (xs : Nat → ByteArray) (xn : Nat → Int) (hP : Acts w w.heap.size A n xd xs xn) (_hn : n ≤ c) (_hc : c ≤ maxLen) :
    Calls Try.prog 3 #[.slice A n c] w fun e w' => e = .returned (.bool true) ∧ Below w.heap.size w w' := by
  have HP := hide hP
  have hnm : n ≤ 9223372036854775807 := by unfold maxLen at _hc; omega
  clear hP _hn _hc
  go_enter Try.func3, Try.ntmps3
  go_wp2_with fail
  refine (tm_small w).mono ?_
  rintro e w0 ⟨rfl, hb0⟩
  have B0 := hide hb0
  clear hb0
  go_wp2_with fail
  refine (tm_new w0).mono ?_
  rintro e w1 ⟨tp, tb, rfl, n1⟩
  have N1 := hide n1
  clear n1
  go_wp2_with fail
  refine (rt_new w1).mono ?_
  rintro e w2 ⟨rp, rfl, r2, b2⟩
  have P2 := hide (show PairAt w0 w2 tp tb w1.heap.size rp (.slice none 0 0) zeroF [] from ⟨N1.out.over b2, r2, N1.out.at_.blk.lt, N1.out.at_.ltb, N1.out.below.size⟩)
  obtain ⟨B, hB⟩ : ∃ B, w1.heap.size = B := ⟨_, rfl⟩
  rw [hB] at P2
  clear r2 b2 N1 hB
  go_wp2_with fail
  go_loopw [6] (fun i wr => ∃ (j : Nat) (F : List UInt8 → Nat) (v : Value) (L : TL), i = .int .i64 j ∧ j ≤ n ∧ PairAt w0 wr tp tb B rp v F L ∧ Rep L F ∧ FitF F) (fun i _ => n - (intOf i).toNat)
  case atStart => exact ⟨0, _, _, _, rfl, Nat.zero_le _, P2.out, Rep.nil, fun s => by simp⟩
  case round =>
    obtain ⟨j, F, v, L, rfl, hj, hp, hr, hf⟩ := hrel
    have PW := hide hp
    have RP := hide hr
    have FF := hide hf
    have HB := hide (below_step B0.out hp.new.below (Nat.le_refl _))
    clear hp hr hf P2
    by_cases hgo : j < n ∧ (j : Int) < 150
    · obtain ⟨hlt, h150⟩ := hgo
      obtain ⟨ab, ao, rfl, hab, hcl⟩ := HP.out (by omega)
      obtain ⟨k0, k1, k2, kw, kn, ks⟩ := hcl j hlt
      have d0 := HB.out.cell (p := ⟨ab, ao + j * 3, none⟩) hab
      have d1 := HB.out.cell (p := ⟨ab, ao + j * 3 + 1, none⟩) hab
      have d2 := HB.out.cell (p := ⟨ab, ao + j * 3 + 2, none⟩) hab
      rw [k0] at d0
      rw [k1] at d1
      rw [k2] at d2
      clear k0 k1 k2 hcl
      obtain ⟨dd, hdd⟩ : ∃ d, xd j = d := ⟨_, rfl⟩
      obtain ⟨t, htt⟩ : ∃ t, xs j = t := ⟨_, rfl⟩
      obtain ⟨zz, hzz⟩ : ∃ z, xn j = z := ⟨_, rfl⟩
      rw [hdd] at d0 kw
      rw [htt] at d1 ks
      rw [hzz] at d2 kn
      clear hdd htt hzz
      have NS := hide (PW.out.over ((Below.refl wr.heap.size wr).alloc (Nat.le_refl _) (.cells #[.int .i64 dd, .string t, .int .i64 zz] 29)))
      have BK := hide (Blk.new wr 29 #[.int .i64 dd, .string t, .int .i64 zz])
      have GA := hide (show wr.heap.size ≠ tb ∧ wr.heap.size ≠ rp from ⟨by have := PW.out.new.at_.ltb; omega, by have := PW.out.rt.blk.lt; omega⟩)
      have KN := hide kn
      have KS := hide ks
      clear kn ks kw
      by_cases e0 : dd = 0
      · subst e0
        have hE := hide (rfl : startE F L t.data.toList zz = startE F L t.data.toList zz)
        obtain ⟨E, hEE⟩ : ∃ E, startE F L t.data.toList zz = E := ⟨_, rfl⟩
        obtain ⟨F2, hF2⟩ : ∃ F2, startF F L t.data.toList zz = F2 := ⟨_, rfl⟩
        have HE := hide hEE
        have HF2 := hide hF2
        have FIT2 := hide (show FitF F2 by rw [← hF2]; exact fit_start FF.out KN.out)
        clear hE hEE hF2
        go_wp2_with fail
        refine wp_region_held_drew (S := fun x => Blk x wr.heap.size 29 #[.int .i64 0, .string t, .int .i64 zz]) (by kernel_rfl) BK.out.drew (fun hHeld => ?_)
        refine rgT 0 ?_
        refine rgT 1 ?_
        refine rgK 2 (F := fun x => x.cell? ⟨wr.heap.size, 1, none⟩ = some (.string t)) (fun x hx => by rw [Blk.cell hx]; rfl) ?_
        refine rgT 3 ?_
        refine rgK 4 (F := fun x => x.cell? ⟨wr.heap.size, 2, none⟩ = some (.int .i64 zz)) (fun x hx => by rw [Blk.cell hx]; rfl) ?_
        refine rgT 6 ?_
        refine rgT 7 ?_
        refine rgK 8 (F := fun x => x.cell? ⟨wr.heap.size, 1, none⟩ = some (.string t)) (fun x hx => by rw [Blk.cell hx]; rfl) ?_
        refine rgT 9 ?_
        refine rgK 10 (F := fun x => x.cell? ⟨wr.heap.size, 2, none⟩ = some (.int .i64 zz)) (fun x hx => by rw [Blk.cell hx]; rfl) ?_
        refine region_call (i := 5) rfl (by kernel_rfl) (by rfl) ((NS.out.drewN 1).start_ RP.out t KS.out zz KN.out) (fun w => by kernel_rfl) ?_
        rintro e x1 ⟨rfl, gx1, px1⟩
        rw [HE.out]
        rw [HF2.out] at px1
        have PX1 := hide px1
        refine ⟨_, rfl, Blk.grown hHeld gx1 (fun e => GA.out.1 (by injection e)), fun hHeld => ?_⟩
        clear gx1 px1
        simp only [Act.put, List.setIfInBounds_toArray, List.set_cons_zero, List.set_cons_succ]
        refine region_call (i := 11) rfl (by kernel_rfl) (by rfl) (PX1.out.dstart_ RP.out (PW.out.len RP.out) t zz) (fun w => by kernel_rfl) ?_
        rintro e x2 ⟨rfl, v2, L2, gx2, px2, rx2⟩
        rw [HE.out]
        rw [HF2.out] at rx2
        have PX2 := hide px2
        have RX2 := hide rx2
        refine ⟨_, rfl, Blk.grown hHeld gx2 (fun e => GA.out.2 (by injection e)), fun hHeld => ?_⟩
        clear gx2 px2 rx2
        simp only [Act.put, List.setIfInBounds_toArray, List.set_cons_zero, List.set_cons_succ]
        refine rgT 12 ?_
        refine wpAnyH_done (by kernel_rfl) ?_ _
        go_wp2_with fail
        refine (tm_next _ PX2.out.new.at_).mono ?_
        rintro e y1 ⟨m, rfl, hm, h2, h3⟩
        have Q1 := hide (PX2.out.prog h2 (h3.but _))
        have HMM := hide hm
        clear h2 h3 hm
        go_wp2_with fail
        refine (rt_next _ Q1.out.rt RX2.out (Q1.out.len RX2.out)).mono ?_
        rintro e y2 ⟨m', rfl, hm', rfl⟩
        obtain rfl := hm'.uniq HMM.out
        obtain ⟨q, hq⟩ : ∃ q, decide (0 < m') = q := ⟨_, rfl⟩
        obtain ⟨z, hz⟩ : ∃ z : Int, ((m' : Nat) : Int) = z := ⟨_, rfl⟩
        rw [hq, hz]
        clear hq hz hm' HMM
        cases q
        all_goals
          go_wp2
          go_roundw
          case rel => exact ⟨j + 1, _, _, _, by go_num, by omega, Q1.out, RX2.out, FIT2.out⟩
          case measure => simp [intOf]; omega
      · have f0 : (dd == 0) = false := beq_eq_false_iff_ne.2 e0
        by_cases e1 : dd = 1
        · subst e1
          obtain ⟨E, hEE⟩ : ∃ E, decide (F t.data.toList ≠ 0) = E := ⟨_, rfl⟩
          have HE := hide hEE
          have FIT2 := hide (fit_upd (t := t.data.toList) FF.out)
          clear hEE
          go_wp2_with fail
          refine wp_region_held_drew (S := fun x => Blk x wr.heap.size 29 #[.int .i64 1, .string t, .int .i64 zz]) (by kernel_rfl) BK.out.drew (fun hHeld => ?_)
          refine rgT 0 ?_
          refine rgT 1 ?_
          refine rgK 2 (F := fun x => x.cell? ⟨wr.heap.size, 1, none⟩ = some (.string t)) (fun x hx => by rw [Blk.cell hx]; rfl) ?_
          refine rgT 4 ?_
          refine rgT 5 ?_
          refine rgK 6 (F := fun x => x.cell? ⟨wr.heap.size, 1, none⟩ = some (.string t)) (fun x hx => by rw [Blk.cell hx]; rfl) ?_
          refine region_call (i := 3) rfl (by kernel_rfl) (by rfl) (tm_stop _ (NS.out.drewN 1).new.at_ t (Nat.le_trans KS.out (by unfold maxLen; decide))) (fun w => by kernel_rfl) ?_
          rintro e x1 ⟨rfl, hx1, gx1⟩
          rw [HE.out]
          have PX1 := hide ((NS.out.drewN 1).prog hx1 gx1)
          refine ⟨_, rfl, Blk.grown hHeld gx1 (fun e => GA.out.1 (by injection e)), fun hHeld => ?_⟩
          clear gx1 hx1
          simp only [Act.put, List.setIfInBounds_toArray, List.set_cons_zero, List.set_cons_succ]
          refine region_call (i := 7) rfl (by kernel_rfl) (by rfl) (rt_stop _ PX1.out.rt RP.out (PW.out.len RP.out) t) (fun w => by kernel_rfl) ?_
          rintro e x2 ⟨rfl, v2, L2, hx2, rx2, gx2⟩
          rw [HE.out]
          have PX2 := hide (PX1.out.doc hx2 gx2)
          have RX2 := hide rx2
          refine ⟨_, rfl, Blk.grown hHeld gx2 (fun e => GA.out.2 (by injection e)), fun hHeld => ?_⟩
          clear gx2 hx2 rx2
          simp only [Act.put, List.setIfInBounds_toArray, List.set_cons_zero, List.set_cons_succ]
          cases E
          all_goals
            refine rgT 8 ?_
            refine wpAnyH_done (by kernel_rfl) ?_ _
            go_wp2_with fail
            refine (tm_next _ PX2.out.new.at_).mono ?_
            rintro e y1 ⟨m, rfl, hm, h2, h3⟩
            have Q1 := hide (PX2.out.prog h2 (h3.but _))
            have HMM := hide hm
            clear h2 h3 hm
            go_wp2_with fail
            refine (rt_next _ Q1.out.rt RX2.out (Q1.out.len RX2.out)).mono ?_
            rintro e y2 ⟨m', rfl, hm', rfl⟩
            obtain rfl := hm'.uniq HMM.out
            obtain ⟨q, hq⟩ : ∃ q, decide (0 < m') = q := ⟨_, rfl⟩
            obtain ⟨z, hz⟩ : ∃ z : Int, ((m' : Nat) : Int) = z := ⟨_, rfl⟩
            rw [hq, hz]
            clear hq hz hm' HMM
            cases q
            all_goals
              go_wp2
              go_roundw
              case rel => exact ⟨j + 1, _, _, _, by go_num, by omega, Q1.out, RX2.out, FIT2.out⟩
              case measure => simp [intOf]; omega
        · have f1 : (dd == 1) = false := beq_eq_false_iff_ne.2 e1
          by_cases e2 : dd = 2
          · subst e2
            obtain ⟨E, hEE⟩ : ∃ E, decide (F t.data.toList ≠ 0) = E := ⟨_, rfl⟩
            have HE := hide hEE
            obtain ⟨zf, hzf⟩ : ∃ z : Int, ((F t.data.toList : Nat) : Int) = z := ⟨_, rfl⟩
            have HZF := hide hzf
            clear hEE hzf
            go_wp2_with fail
            refine (tm_left _ NS.out.new.at_ t (Nat.le_trans KS.out (by unfold maxLen; decide))).mono ?_
            rintro e x1 ⟨rfl, rfl⟩
            rw [HE.out, HZF.out]
            go_wp2_with fail
            refine (rt_left _ NS.out.rt RP.out (PW.out.len RP.out) t).mono ?_
            rintro e x2 ⟨rfl, rfl⟩
            rw [HE.out, HZF.out]
            cases E
            all_goals
              go_wp2_with fail
              refine (tm_next _ NS.out.new.at_).mono ?_
              rintro e y1 ⟨m, rfl, hm, h2, h3⟩
              have Q1 := hide (NS.out.prog h2 (h3.but _))
              have HMM := hide hm
              clear h2 h3 hm
              go_wp2_with fail
              refine (rt_next _ Q1.out.rt RP.out (Q1.out.len RP.out)).mono ?_
              rintro e y2 ⟨m', rfl, hm', rfl⟩
              obtain rfl := hm'.uniq HMM.out
              obtain ⟨q, hq⟩ : ∃ q, decide (0 < m') = q := ⟨_, rfl⟩
              obtain ⟨z, hz⟩ : ∃ z : Int, ((m' : Nat) : Int) = z := ⟨_, rfl⟩
              rw [hq, hz]
              clear hq hz hm' HMM
              cases q
              all_goals
                go_wp2
                go_roundw
                case rel => exact ⟨j + 1, _, _, _, by go_num, by omega, Q1.out, RP.out, FF.out⟩
                case measure => simp [intOf]; omega
          · have f2 : (dd == 2) = false := beq_eq_false_iff_ne.2 e2
            by_cases e3 : dd = 3
            · subst e3
              go_wp2_with fail
              refine (tm_tick _ NS.out.new.at_).mono ?_
              rintro e w3 ⟨A', c', ss, rfl, ho, hl, hrow, g2, g3⟩
              have P3 := hide (NS.out.prog g2 g3)
              have HO := hide (RP.out.over.uniq ho)
              have HL := hide hl
              have HROW := hide hrow
              clear ho hl hrow g2 g3
              go_wp2_with fail
              refine (rt_tick w3 P3.out.rt RP.out (PW.out.len RP.out) FF.out).mono ?_
              rintro e w4 ⟨A2, c2, rfl, hrow2, ⟨v4, rt4, nw4⟩, g4⟩
              rw [HO.out] at hrow2
              rw [HO.out]
              have P4 := hide (P3.out.doc rt4 g4)
              have OR4 := hide (ownS_far HROW.out g4 (by
                by_cases e : (Value.slice A' ss.length c').ownBlock = none
                · exact .inl e
                · refine .inr fun e2 => ?_
                  have h1 := (HROW.out.lt _ e2).1
                  have h2 := NS.out.rt.blk.lt
                  omega))
              have R4 := hide RP.out.tick
              have FIT4 := hide (show FitF (fun s => F s - 1) from fun s => by have := FF.out s; show F s - 1 ≤ _; omega)
              have HROW2 := hide hrow2
              have NW4 := hide (show ∀ g, A' = some ⟨g, 0, none⟩ → v4.ownBlock ≠ some g from fun g hA hv => by
                have h1 := nw4 g hv
                have h2 := (HROW.out.lt g (by rw [hA]; rfl)).2
                omega)
              clear hrow2 rt4 nw4 g4
              go_wp2_with fail
              refine (names_same w4 OR4.out HROW2.out HL.out).mono ?_
              rintro e w5 ⟨rfl, qd, rfl⟩
              have P5 := hide (P4.out.drewN qd)
              have SP := hide (show Spoil (w4.drewN qd) (wr.alloc (.cells #[.int .i64 3, .string t, .int .i64 zz] 29)).heap.size B rp v4 A' ss.length from Spoil.of (h := OR4.out) NW4.out)
              have HLO := hide (show w0.heap.size ≤ (wr.alloc (.cells #[.int .i64 3, .string t, .int .i64 zz] 29)).heap.size ∧ rp < (wr.alloc (.cells #[.int .i64 3, .string t, .int .i64 zz] 29)).heap.size ∧ tp < (wr.alloc (.cells #[.int .i64 3, .string t, .int .i64 zz] 29)).heap.size ∧ tb < (wr.alloc (.cells #[.int .i64 3, .string t, .int .i64 zz] 29)).heap.size from ⟨NS.out.new.below.size, NS.out.rt.blk.lt, NS.out.new.at_.blk.lt, NS.out.new.at_.ltb⟩)
              obtain ⟨lo, hlo⟩ : ∃ lo, (wr.alloc (.cells #[.int .i64 3, .string t, .int .i64 zz] 29)).heap.size = lo := ⟨_, rfl⟩
              rw [hlo] at SP HLO
              clear hlo HROW
              obtain ⟨w6, hw6⟩ : ∃ w6, w4.drewN qd = w6 := ⟨_, rfl⟩
              rw [hw6] at P5 SP ⊢
              clear hw6
              go_wp2_with fail
              go_loopw [14] (fun k wy => ∃ i : Nat, k = .int .i64 i ∧ i ≤ ss.length ∧ PairAt w0 wy tp tb B rp v4 (fun s => F s - 1) (tickL L) ∧ Spoil wy lo B rp v4 A' ss.length) (fun k _ => ss.length - (intOf k).toNat)
              case atStart => exact ⟨0, rfl, Nat.zero_le _, P5.out, SP.out⟩
              case round =>
                obtain ⟨i, rfl, hi, hpy, hsy⟩ := hrel
                have PY := hide hpy
                have SY := hide hsy
                clear hpy hsy
                by_cases hlti : i < ss.length
                · obtain ⟨g, cs, rfl, hbk, hcs, hgl, hgv⟩ : ∃ g cs, A' = some ⟨g, 0, none⟩ ∧ Blk wr g 9 cs ∧ ss.length ≤ cs.size ∧ lo ≤ g ∧ v4.ownBlock ≠ some g := by
                    rcases SY.out with h | h
                    · omega
                    · exact h
                  obtain ⟨u0, hu0⟩ : ∃ u0, cs[i]? = some u0 := ⟨cs[i], Array.getElem?_eq_getElem (by omega)⟩
                  have cc : wr.cell? ⟨g, i, none⟩ = some u0 := by rw [hbk.cell]; exact hu0
                  have cf : wr.frozen? ⟨g, i, none⟩ = false := hbk.frozen i
                  have HBK := hide hbk
                  have HCS := hide hcs
                  have HGL := hide hgl
                  have HGV := hide hgv
                  have hsl := HL.out
                  clear hbk hcs hgl hgv hu0
                  go_wp2
                  go_roundw
                  case rel =>
                    have hg0 := HGL.out
                    have hg := grown_setCell (grown_refl wr (some g)) (p := ⟨g, i, none⟩) (.inl rfl) (.string ⟨#[115, 112, 111, 105, 108, 116]⟩)
                    have hlo := HLO.out
                    refine ⟨i + 1, by go_num, by omega, PY.out.grown_ (PY.out.rt.grown hg (fun e => by injection e with e; omega) (by
                      by_cases e : v4.ownBlock = none
                      · exact .inl e
                      · exact .inr HGV.out)) hg (by omega) (by omega) (by omega), .inr ⟨g, _, rfl, HBK.out.set_ i _, by have := HCS.out; simpa using this, hg0, HGV.out⟩⟩
                  case measure => simp [intOf]; omega
                · obtain rfl : i = ss.length := by omega
                  go_wp2_with fail
                  refine (tm_next _ PY.out.new.at_).mono ?_
                  rintro e y1 ⟨m, rfl, hm, h2, h3⟩
                  have Q1 := hide (PY.out.prog h2 (h3.but _))
                  have HMM := hide hm
                  clear h2 h3 hm
                  go_wp2_with fail
                  refine (rt_next _ Q1.out.rt R4.out (Q1.out.len R4.out)).mono ?_
                  rintro e y2 ⟨m', rfl, hm', rfl⟩
                  obtain rfl := hm'.uniq HMM.out
                  obtain ⟨q, hq⟩ : ∃ q, decide (0 < m') = q := ⟨_, rfl⟩
                  obtain ⟨z, hz⟩ : ∃ z : Int, ((m' : Nat) : Int) = z := ⟨_, rfl⟩
                  rw [hq, hz]
                  clear hq hz hm' HMM
                  cases q
                  all_goals
                    go_wp2
                    go_roundw
                    case rel => exact ⟨j + 1, _, _, _, by go_num, by omega, Q1.out, R4.out, FIT4.out⟩
                    case measure => simp [intOf]; omega
            · have f3 : (dd == 3) = false := beq_eq_false_iff_ne.2 e3
              by_cases e5 : dd = 5
              · subst e5
                go_wp2_with fail
                refine (tm_clear _ NS.out.new.at_).mono ?_
                rintro e x1 ⟨rfl, hx1, gx1⟩
                have PX1 := hide (NS.out.prog hx1 gx1)
                clear hx1 gx1
                go_wp2_with fail
                refine (rt_clear _ PX1.out.rt).mono ?_
                rintro e x2 ⟨rfl, hx2, gx2⟩
                have PX2 := hide (PX1.out.doc hx2 gx2)
                have RX2 := hide (show Rep [] (fun _ => 0) from Rep.nil)
                have FIT2 := hide (show FitF (fun _ => 0) from fun s => by simp)
                clear hx2 gx2
                go_wp2_with fail
                refine (tm_next _ PX2.out.new.at_).mono ?_
                rintro e y1 ⟨m, rfl, hm, h2, h3⟩
                have Q1 := hide (PX2.out.prog h2 (h3.but _))
                have HMM := hide hm
                clear h2 h3 hm
                go_wp2_with fail
                refine (rt_next _ Q1.out.rt RX2.out (Q1.out.len RX2.out)).mono ?_
                rintro e y2 ⟨m', rfl, hm', rfl⟩
                obtain rfl := hm'.uniq HMM.out
                obtain ⟨q, hq⟩ : ∃ q, decide (0 < m') = q := ⟨_, rfl⟩
                obtain ⟨z, hz⟩ : ∃ z : Int, ((m' : Nat) : Int) = z := ⟨_, rfl⟩
                rw [hq, hz]
                clear hq hz hm' HMM
                cases q
                all_goals
                  go_wp2
                  go_roundw
                  case rel => exact ⟨j + 1, _, _, _, by go_num, by omega, Q1.out, RX2.out, FIT2.out⟩
                  case measure => simp [intOf]; omega
              · have f5 : (dd == 5) = false := beq_eq_false_iff_ne.2 e5
                go_wp2_with fail
                refine (tm_next _ NS.out.new.at_).mono ?_
                rintro e y1 ⟨m, rfl, hm, h2, h3⟩
                have Q1 := hide (NS.out.prog h2 (h3.but _))
                have HMM := hide hm
                clear h2 h3 hm
                go_wp2_with fail
                refine (rt_next _ Q1.out.rt RP.out (Q1.out.len RP.out)).mono ?_
                rintro e y2 ⟨m', rfl, hm', rfl⟩
                obtain rfl := hm'.uniq HMM.out
                obtain ⟨q, hq⟩ : ∃ q, decide (0 < m') = q := ⟨_, rfl⟩
                obtain ⟨z, hz⟩ : ∃ z : Int, ((m' : Nat) : Int) = z := ⟨_, rfl⟩
                rw [hq, hz]
                clear hq hz hm' HMM
                cases q
                all_goals
                  go_wp2
                  go_roundw
                  case rel => exact ⟨j + 1, _, _, _, by go_num, by omega, Q1.out, RP.out, FF.out⟩
                  case measure => simp [intOf]; omega
    · have hend : ¬ (j : Int) < n ∨ ((j : Int) < n ∧ ¬ (j : Int) < 150) := by omega
      clear hgo
      rcases hend with hx | ⟨hx, hy⟩
      all_goals
        go_wp2
        go_ret
        exact ⟨rfl, HB.out⟩
end Go.Proofs.Ytejcgicedjmedaa

