/-
  The document's own timers: Start. No condition.
-/
import Derived.Test.YtejcgicedjmedaaTmR4
namespace Go.Proofs.Ytejcgicedjmedaa
open Go.RowKit
set_option linter.unusedVariables false
set_option linter.unusedSimpArgs false

/-- a row under way, beside the document's timers -/
structure MidR (w wx : World) (B rp : Nat) (v : Value) (L : TL) (u : Value) (n : Nat) (xs : TL) : Prop where
  at_ : RtAt wx B rp v L
  own : wx.ownsRow B 52 2 u n (flatG tmL xs)
  grown : w.grownBy wx none
  new : ∀ g, u.ownBlock = some g → w.heap.size ≤ g
section
variable {w wx wy : World} {B rp n n' : Nat} {v u u' : Value} {L xs xs' : TL}
theorem MidR.start (h : RtAt w B rp v L) : MidR w w B rp v L (.slice none 0 0) 0 [] := ⟨h, World.ownsRow_nil _ _ _ _, grown_refl _ _, fun g hg => by cases hg⟩
theorem ne_none {v : Value} {g : Option Nat} (h : v.ownBlock ≠ g ∨ v.ownBlock = none) : v.ownBlock = none ∨ v.ownBlock ≠ g := h.symm
/-- what is new leaves the document's timers as they are -/
theorem MidR.far (h : MidR w wx B rp v L u n xs) {row : Option Nat} (hg : wx.grownBy wy row) (hr : ∀ g, row = some g → w.heap.size ≤ g) (hw : RtAt w B rp v L) : RtAt wy B rp v L ∧ w.grownBy wy none := by
  refine ⟨h.at_.grown hg (fun e => ?_) ?_, h.grown.andThen hg (fun j hj => .inl (hr j hj))⟩
  · have := hr rp e.symm
    have := hw.blk.lt
    omega
  · by_cases e : v.ownBlock = none
    · exact .inl e
    · refine .inr fun e2 => ?_
      obtain ⟨g, hg2⟩ := Option.ne_none_iff_exists'.1 e
      have := hr g (by rw [← e2, hg2])
      have := (hw.own.lt g hg2).2
      omega
theorem MidR.app (h : MidR w wx B rp v L u n xs) (hw : RtAt w B rp v L) (ho : wy.ownsRow B 52 2 u' n' (flatG tmL xs')) (hg : wx.grownBy wy u.ownBlock) (ha : u'.ownBlock = u.ownBlock ∨ u'.ownBlock = some wx.heap.size) : MidR w wy B rp v L u' n' xs' := by
  obtain ⟨h1, h2⟩ := h.far hg h.new hw
  refine ⟨h1, ho, h2, fun g hg => ?_⟩
  rcases ha with ha | ha
  · exact h.new g (by rw [← ha]; exact hg)
  · rw [ha] at hg
    injection hg with hg
    have := h.grown.size
    omega
theorem MidR.alloc (h : MidR w wx B rp v L u n xs) (o : Obj) : MidR w (wx.alloc o) B rp v L u n xs := by
  have hg := World.grownBy_alloc wx o none
  exact ⟨h.at_.grown hg (by simp) (by
    by_cases e : v.ownBlock = none
    · exact .inl e
    · exact .inr e), h.own.alloc o, grown_trans h.grown hg, h.new⟩
theorem MidR.base (h : MidR w wx B rp v L u n xs) : B ≤ wx.heap.size := h.at_.base
theorem MidR.lay (h : MidR w wx B rp v L u n xs) (hw : RtAt w B rp v L) (hn : n = xs.length) : RtAt (wx.setCell ⟨rp, 0, none⟩ u) B rp u xs ∧ w.grownBy (wx.setCell ⟨rp, 0, none⟩ u) (some rp) := by
  subst hn
  obtain ⟨a, b⟩ := h.at_.put h.own (fun e => by
    have := h.new rp e
    have := hw.blk.lt
    omega)
  exact ⟨a, grown_trans (h.grown.but _) b⟩
end
theorem ba_eta (s : ByteArray) : (⟨s.data.toList.toArray⟩ : ByteArray) = s := by cases s; simp
/-- a row of one timer that was just laid -/
theorem one_tm {w : World} {g : Nat} {s : ByteArray} {z : Int} {m : Nat} (h : Blk w g 52 #[.string s, .int .i64 z]) (hz : z = m) : AtG tmL w g (g + 1) (some ⟨g, 0, none⟩) 1 [(s.data.toList, m)] := by
  refine AtG.one (t := 52) ?_
  show Blk w g _ #[.string ⟨s.data.toList.toArray⟩, .int .i64 m]
  rw [ba_eta, ← hz]
  exact h
def RStart (F : List UInt8 → Nat) (L : TL) (B rp : Nat) (t : List UInt8) (n : Int) (w : World) (e : Ending) (w' : World) : Prop :=
  (e = .returned (.int .i64 1) ∧ n < 1 ∧ w' = w) ∨ (e = .returned (.int .i64 6) ∧ 1 ≤ n ∧ F t = 0 ∧ 32 ≤ L.length ∧ w' = w) ∨
  (e = .returned (.int .i64 0) ∧ 1 ≤ n ∧ (F t ≠ 0 ∨ L.length < 32) ∧ ∃ v' L', RtAt w' B rp v' L' ∧ Rep L' (updF F t n.toNat) ∧ w.grownBy w' (some rp))
set_option maxRecDepth 20000 in
set_option maxHeartbeats 3000000 in
theorem rt_start (w : World) {B rp : Nat} {v : Value} {L : TL} {F : List UInt8 → Nat} (h : RtAt w B rp v L) (hr : Rep L F) (hL : L.length ≤ 32) (s : ByteArray) (n : Int) :
    Calls Try.prog 11 #[.pointer (some ⟨rp, 0, none⟩), .string s, .int .i64 n] w fun e w' => RStart F L B rp s.data.toList n w e w' := by
  have HLF := hide (rt_left w h hr hL s)
  have HST := hide (rt_stop w h hr hL s)
  obtain ⟨A, c, rfl, hc1, hc2⟩ := h.shape
  have H := hide h
  have c0 := h.cell
  have HR := hide hr
  have HL := hide hL
  clear h hr hL
  go_enter Try.func11, Try.ntmps11
  go_wp2_with fail
  refine HLF.out.mono ?_
  rintro e w1 ⟨rfl, rfl⟩
  by_cases h1 : n < 1
  · go_wp2
    go_ret
    exact .inl ⟨rfl, h1, rfl⟩
  obtain ⟨f, hf⟩ : ∃ f, F s.data.toList = f := ⟨_, rfl⟩
  rw [hf]
  have HF := hide hf
  clear hf
  by_cases hfull : f = 0 ∧ 32 ≤ L.length
  · obtain ⟨rfl, h32⟩ := hfull
    rw [show decide ((0 : Nat) ≠ 0) = false from rfl]
    have h33 : (32 : Int) ≤ (L.length : Int) := by omega
    go_wp2
    go_ret
    exact .inr (.inl ⟨rfl, by omega, HF.out, h32, rfl⟩)
  have hgo : f ≠ 0 ∨ L.length < 32 := by omega
  have HGO := hide hgo
  have HST2 := HST
  clear HST
  have key : ∀ (q : Bool), (q = false → (L.length : Int) < 32) → decide (f ≠ 0) = q → True := fun _ _ _ => trivial
  obtain ⟨q, hq⟩ : ∃ q, decide (f ≠ 0) = q := ⟨_, rfl⟩
  rw [hq]
  have hql : q = false → (L.length : Int) < 32 := fun e => by
    rw [e] at hq
    have h0 : f = 0 := by simpa using hq
    rcases hgo with h | h
    · exact absurd h0 h
    · omega
  have hcase : (q = true) ∨ (q = false ∧ (L.length : Int) < 32) := by
    cases q
    · exact .inr ⟨rfl, hql rfl⟩
    · exact .inl rfl
  clear hgo hfull key hq hql
  rcases hcase with rfl | ⟨rfl, hl32⟩
  all_goals
    go_wp2_with fail
    refine HST2.out.mono ?_
    rintro e w1 ⟨rfl, v1, L1, r1, p1, g1⟩
    have hL1 : L1.length ≤ 32 := by
      have hc := HR.out.cnt
      obtain ⟨m, hm, hc2⟩ := hc.less (G := updF F s.data.toList 0) (fun t ht => by
        unfold updF at ht
        split at ht
        · exact absurd rfl ht
        · exact ht)
      have := hc2.uniq p1.cnt
      have := HL.out
      omega
    have HA1 := hide (rt_at w1 r1 hL1 s)
    obtain ⟨A1, d1, rfl, hd1, hd2⟩ := r1.shape
    have R1 := hide r1
    have P1 := hide p1
    have G1 := hide g1
    have HL1 := hide hL1
    clear r1 p1 g1 c0 hL1
    go_wp2_with fail
    refine HA1.out.mono ?_
    rintro e w1' ⟨k, rfl, hk, rfl⟩
    have HK := hide hk
    have hkl := hk.le
    have c1 := R1.out.cell
    have M1 := hide (MidR.start R1.out)
    have HB1' := hide (show 0 + k ≤ 100 by have := HL1.out; omega)
    have HB2' := hide (show 0 + k + 1 ≤ 100 by have := HL1.out; omega)
    have HB3' := hide (show 0 + k + 1 + (L1.length - k) ≤ 100 by have := HL1.out; omega)
    have hnn : n = ((n.toNat : Nat) : Int) := by omega
    have HNN := hide hnn
    clear hk hnn
    go_wp2_with (first
      | ((with_reducible refine wpList_to rfl (.tmp 39) (.tmp 40) rfl rfl rfl rfl R1.out.atG hkl hd1 ?_); intro A2 c2 hA2; have HA2 := hide hA2; clear hA2)
      | (at_builtin; (with_reducible refine wpList_app rfl (.tmp 35) (.tmp 41) rfl B (v := .slice none 0 0) (xs := []) rfl (World.ownsRow_nil _ _ _ _) rfl HA2.out HB1'.out M1.out.base ?_); intro v2 w2 o2 g2 a2; have M2 := hide (M1.out.app R1.out o2 g2 a2); clear o2 g2 a2 c1)
      | (at_builtin; (with_reducible refine wpList_app rfl (.tmp 43) (.tmp 47) rfl B (v := v2) rfl (M2.out.alloc _).own rfl (one_tm (Blk.new w2 _ _) HNN.out) HB2'.out (M2.out.alloc _).base ?_); intro v3 w3 o3 g3 a3; have M3 := hide ((M2.out.alloc _).app R1.out o3 g3 a3); have c3 := M3.out.at_.cell; clear o3 g3 a3)
      | ((with_reducible refine wpList_from rfl (.tmp 54) (.tmp 55) rfl rfl rfl rfl M3.out.at_.atG hkl hd1 ?_); intro A4 c4 hA4; have HA4 := hide hA4; clear hA4)
      | (at_builtin; (with_reducible refine wpList_app rfl (.tmp 50) (.tmp 56) rfl B (v := v3) rfl M3.out.own rfl HA4.out HB3'.out M3.out.base ?_); intro v4 w4 o4 g4 a4; obtain ⟨A5, c5, rfl, _, _⟩ := ownG_shape o4; have M4 := hide (M3.out.app R1.out o4 g4 a4); have c4 := M4.out.at_.cell; have f4 := M4.out.at_.blk.frozen 0; clear o4 g4 a4 c3))
    go_ret
    have hl := HL1.out
    obtain ⟨e1, e2⟩ := M4.out.lay R1.out (by simp; omega)
    have hp := P1.out.start (updF_same _ _ _) HK.out (m := n.toNat) (by omega)
    rw [updF_twice] at hp
    rw [Nat.zero_add] at e1 e2
    refine .inr (.inr ⟨rfl, by omega, by rw [HF.out]; exact HGO.out, _, _, e1, ?_, grown_trans G1.out e2⟩)
    simpa using hp
end Go.Proofs.Ytejcgicedjmedaa
