/-
  Timers: New, Start, Stop, Left, Clear. Conditions: names that fit memory.
-/
import Derived.Test.YtejcgicedjmedaaProg
import Derived.Test.YtejcgicedjmedaaBase
import Derived.Test.YtejcgicedjmedaaAuto
import Derived.Test.YtejcgicedjmedaaExec
import Derived.Test.YtejcgicedjmedaaTmMap
import Derived.Test.YtejcgicedjmedaaShelf
import Derived.Maps.OwnSet
import Derived.Deep.RegionLaw
namespace Go.Proofs.Ytejcgicedjmedaa
open Go.RowKit
open Go.Maps (Keyed IsMap Tidy)
set_option linter.unusedVariables false
set_option linter.unusedSimpArgs false

theorem keyedS : Keyed Try.prog 9 := Maps.string_keyed Try.underlying9
theorem zeroI (w : World) : (zeroValue 3).run Try.prog w = .ok (.int .i64 0) w := by kernel_rfl
/-- timers in memory: of each name how many ticks it has left -/
structure TmAt (w : World) (tp b : Nat) (F : List UInt8 → Nat) : Prop where
  ne : tp ≠ b
  blk : Blk w tp 45 #[.map (some b)]
  map : ∃ D : DataW Unit, w.ownsMap Try.prog 9 (plainElem Try.prog 3) b 32 D ∧ TmD D F
section
variable {w w' : World} {tp b : Nat} {F G : List UInt8 → Nat}
theorem TmAt.ltb (h : TmAt w tp b F) : b < w.heap.size := by obtain ⟨D, hm, _⟩ := h.map; exact hm.lt
theorem TmAt.grown {row : Option Nat} (h : TmAt w tp b F) (hg : w.grownBy w' row) (h1 : some tp ≠ row) (h2 : some b ≠ row) : TmAt w' tp b F := by
  obtain ⟨D, hm, hd⟩ := h.map
  exact ⟨h.ne, h.blk.grown hg h1, D, hm.kept hg h2, hd⟩
theorem TmAt.over (h : TmAt w tp b F) (hb : Below w.heap.size w w') : TmAt w' tp b F := h.grown (grown_of_below hb none) (by simp) (by simp)
theorem TmAt.drewN (h : TmAt w tp b F) (n : Nat) : TmAt (w.drewN n) tp b F := ⟨h.ne, h.blk.drewN n, h.map⟩
theorem TmAt.cell (h : TmAt w tp b F) : w.cell? ⟨tp, 0, none⟩ = some (.map (some b)) := by rw [h.blk.cell]; rfl
theorem TmAt.cnt (h : TmAt w tp b F) : ∃ n, n ≤ 32 ∧ Cnt F n := by
  obtain ⟨D, hm, hd⟩ := h.map
  exact ⟨_, hm.size_le, own_cnt hd hm keyedS Try.underlying9⟩
theorem TmAt.same (h : TmAt w tp b F) (e : ∀ s, F s = G s) : TmAt w tp b G := by rw [← funext e]; exact h
end
/-- timers that the call has made -/
structure NewTm (w wx : World) (tp b : Nat) (F : List UInt8 → Nat) : Prop where
  at_ : TmAt wx tp b F
  lo : w.heap.size ≤ tp
  lob : w.heap.size ≤ b
  below : Below w.heap.size w wx
section
variable {w wx w' : World} {tp b : Nat} {F G : List UInt8 → Nat}
theorem NewTm.step (h : NewTm w wx tp b F) (k : TmAt w' tp b G) (hg : wx.grownBy w' (some b)) : NewTm w w' tp b G :=
  ⟨k, h.lo, h.lob, h.below.grown hg h.below.size (fun j hj => by cases hj; exact h.lob)⟩
theorem NewTm.over (h : NewTm w wx tp b F) (hb : Below wx.heap.size wx w') : NewTm w w' tp b F :=
  ⟨h.at_.over hb, h.lo, h.lob, below_step h.below hb (Nat.le_refl _)⟩
theorem NewTm.drewN (h : NewTm w wx tp b F) (n : Nat) : NewTm w (wx.drewN n) tp b F := ⟨h.at_.drewN n, h.lo, h.lob, h.below.grown (grown_drewN (grown_refl wx none) n) h.below.size (fun j hj => by cases hj)⟩
end
theorem tm_new (w : World) : Calls Try.prog 8 #[] w fun e w' => ∃ tp b, e = .returned (.pointer (some ⟨tp, 0, none⟩)) ∧ NewTm w w' tp b (fun _ => 0) := by
  have hmm := @run_makeMap Try.prog
  go_enter Try.func8, Try.ntmps8
  go_wp2
  go_ret
  have h1 := World.ownsMap_made (H := Unit) w Try.prog 9 (plainElem Try.prog 3)
  refine ⟨w.heap.size + 1, w.heap.size, by simp, ⟨⟨by omega, ?_, ?_⟩, by omega, Nat.le_refl _, ((Below.refl _ _).alloc (Nat.le_refl _) _).alloc (by simp) _⟩⟩
  · have := Blk.new (w.alloc (.map #[] 0)) 45 #[.map (some w.heap.size)]
    simpa using this
  · exact ⟨_, (h1.mono (Nat.zero_le _)).alloc _, tmD_nil⟩
set_option maxRecDepth 20000 in
theorem tm_left (w : World) {tp b : Nat} {F : List UInt8 → Nat} (h : TmAt w tp b F) (s : ByteArray) (hs : s.size ≤ maxLen) :
    Calls Try.prog 14 #[.pointer (some ⟨tp, 0, none⟩), .string s] w fun e w' => e = .returned (.tuple #[.int .i64 (F s.data.toList), .bool (decide (F s.data.toList ≠ 0))]) ∧ w' = w := by
  obtain ⟨D, hm, hd⟩ := h.map
  have c0 := h.cell
  have M := hide hm
  have HK := hide (Go.WideMaps.keyOf_string_mk (P := Try.prog) Try.underlying9 hs)
  obtain ⟨t, ht⟩ : ∃ t, s.data.toList = t := ⟨_, rfl⟩
  rw [ht] at HK ⊢
  have HAS := hide (hd t).1
  have HAT := hide (hd t).2
  obtain ⟨x, hx⟩ : ∃ x : Int, (F t : Int) = x := ⟨_, rfl⟩
  obtain ⟨q, hq⟩ : ∃ q, decide (F t ≠ 0) = q := ⟨_, rfl⟩
  rw [hx] at HAT ⊢
  rw [hq] at HAS ⊢
  clear h hm hd hx hq ht hs
  go_enter Try.func14, Try.ntmps14
  go_wp2_with (at_lookup; refine wpList_lookup_own_ok_int _ rfl _ _ 43 rfl 9 3 .i64 keyedS Try.underlying43 Try.underlying3 (zeroI _) b _ D rfl M.out _ _ rfl HK.out ?_; intro y hat hwc; rw [HAS.out]; (obtain rfl : x = y := by rw [HAT.out] at hat; injection hat with hat; injection hat); clear hat hwc)
  go_ret2
  exact ⟨rfl, rfl⟩
set_option maxRecDepth 20000 in
theorem tm_stop (w : World) {tp b : Nat} {F : List UInt8 → Nat} (h : TmAt w tp b F) (s : ByteArray) (hs : s.size ≤ maxLen) :
    Calls Try.prog 12 #[.pointer (some ⟨tp, 0, none⟩), .string s] w fun e w' => e = .returned (.bool (decide (F s.data.toList ≠ 0))) ∧ TmAt w' tp b (updF F s.data.toList 0) ∧ w.grownBy w' (some b) := by
  obtain ⟨D, hm, hd⟩ := h.map
  have c0 := h.cell
  have HA := hide h
  have M := hide hm
  have HK := hide (Go.WideMaps.keyOf_string_mk (P := Try.prog) Try.underlying9 hs)
  obtain ⟨t, ht⟩ : ∃ t, s.data.toList = t := ⟨_, rfl⟩
  rw [ht] at HK ⊢
  have HAS := hide (hd t).1
  have HDD := hide hd
  obtain ⟨q, hq⟩ : ∃ q, decide (F t ≠ 0) = q := ⟨_, rfl⟩
  rw [hq] at HAS ⊢
  clear h hm hd hq ht hs
  go_enter Try.func12, Try.ntmps12
  go_wp2_with (first
    | (at_lookup; refine wpList_lookup_own_ok_int _ rfl _ _ 43 rfl 9 3 .i64 keyedS Try.underlying43 Try.underlying3 (zeroI _) b _ D rfl M.out _ _ rfl HK.out ?_; intro y hat hwc; rw [HAS.out]; clear hat hwc)
    | (at_delete; refine wpList_delete_own _ rfl _ _ 43 9 rfl 3 keyedS Try.underlying43 _ b _ D rfl M.out _ _ rfl HK.out ?_; intro w1 h1 t1; have N1 := hide h1; have G1 := hide t1; clear h1 t1))
  go_ret
  exact ⟨rfl, ⟨HA.out.ne, HA.out.blk.grown G1.out.grown (fun e => HA.out.ne (by injection e)), _, N1.out, HDD.out.del t⟩, G1.out.grown⟩
theorem tm_clear (w : World) {tp b : Nat} {F : List UInt8 → Nat} (h : TmAt w tp b F) :
    Calls Try.prog 19 #[.pointer (some ⟨tp, 0, none⟩)] w fun e w' => e = .returned (.tuple #[]) ∧ TmAt w' tp b (fun _ => 0) ∧ w.grownBy w' (some b) := by
  obtain ⟨D, hm, hd⟩ := h.map
  have c0 := h.cell
  have HA := hide h
  have M := hide hm
  clear h hm hd
  go_enter Try.func19, Try.ntmps19
  go_wp2_with (refine wpList_clear_own _ rfl _ 43 rfl 9 3 Try.underlying43 _ b _ D rfl M.out ?_; intro w1 h1 t1; have N1 := hide h1; have G1 := hide t1; clear h1 t1)
  go_end0
  exact ⟨rfl, ⟨HA.out.ne, HA.out.blk.grown G1.out.grown (fun e => HA.out.ne (by injection e)), _, N1.out.mono (Nat.zero_le _), tmD_nil⟩, G1.out.grown⟩
theorem strings_clone (s : ByteArray) (w : World) (hl : s.size ≤ 281474976710656) : Calls Try.prog 24 #[.string s] w fun e w' => e = .returned (.string s) ∧ Below w.heap.size w w' := by
  go_enter Try.func24, Try.ntmps24
  go_wp2_with fail
  refine (Try.stringslite_Clone s w hl).mono ?_
  rintro e w1 ⟨rfl, h1⟩
  go_wp2
  go_ret
  exact ⟨rfl, h1⟩
theorem exec_mapUpdate {P : Program} {o : Oper} {a : Act} {w w' : World} {t : TypeId} (m q x : Operand) (ho : o.op = .mapUpdate t m q x) {mv qv xv : Value} (hm : a.eval m = mv) (hq : a.eval q = qv) (hx : a.eval x = xv) (hrun : (Instr.mapUpdate t mv qv xv).run P w = .ok () w') : (execOp a.eval o).run P w = .ok .skip w' := by
  subst hm; subst hq; subst hx
  simp [execOp, ho, hrun, Result.andThen]
theorem plain_int {q : Int} (h : (Lit.int .i64 q).wf = true) : plainElem (H := Unit) Try.prog 3 (.int .i64 q) = some (.lit (.int .i64 q), []) := plainElem_int Try.underlying3 h
/-- Start: no such ticks; full; started -/
def StartPost (F : List UInt8 → Nat) (tp b : Nat) (t : List UInt8) (n : Int) (w : World) (e : Ending) (w' : World) : Prop :=
  (e = .returned (.int .i64 1) ∧ n < 1 ∧ w' = w) ∨ (e = .returned (.int .i64 6) ∧ 1 ≤ n ∧ F t = 0 ∧ Cnt F 32 ∧ w' = w) ∨
  (e = .returned (.int .i64 0) ∧ 1 ≤ n ∧ (F t ≠ 0 ∨ ¬ Cnt F 32) ∧ TmAt w' tp b (updF F t n.toNat) ∧ w.grownBy w' (some b))
set_option maxRecDepth 20000 in
set_option maxHeartbeats 3000000 in
theorem tm_start (w : World) {tp b : Nat} {F : List UInt8 → Nat} (h : TmAt w tp b F) (s : ByteArray) (hs : s.size ≤ 281474976710656) (n : Int) (hn : (Lit.int .i64 n).wf = true) :
    Calls Try.prog 10 #[.pointer (some ⟨tp, 0, none⟩), .string s, .int .i64 n] w fun e w' => StartPost F tp b s.data.toList n w e w' := by
  have hs2 : s.size ≤ maxLen := Nat.le_trans hs (by unfold maxLen; decide)
  by_cases h1 : n < 1
  · have HN := hide h1
    go_enter Try.func10, Try.ntmps10
    go_wp2
    go_ret
    exact .inl ⟨rfl, h1, rfl⟩
  obtain ⟨D, hm, hd⟩ := h.map
  have c0 := h.cell
  have HA := hide h
  have M := hide hm
  have HK := hide (Go.WideMaps.keyOf_string_mk (P := Try.prog) Try.underlying9 hs2)
  obtain ⟨t, ht⟩ : ∃ t, s.data.toList = t := ⟨_, rfl⟩
  rw [ht] at HK ⊢
  have HAS := hide (hd t).1
  have HDD := hide hd
  have HS := hide hs
  have HW := hide hn
  have HC := hide (own_cnt hd hm keyedS Try.underlying9)
  have HL := fun ty => hm.len (P := Try.prog) (t := 43) (e := 3) Try.underlying43 ty
  obtain ⟨z, hz⟩ : ∃ z : Int, ((Maps.size D : Nat) : Int) = z := ⟨_, rfl⟩
  rw [hz] at HL
  have HZ := hide hz
  have HSL := hide hm.size_le
  have HTY := hide (hm.tidy keyedS)
  clear h hm hd hs hn hs2 ht hz
  by_cases hf : F t = 0 ∧ z = 32
  · have HQ : Hid (decide (F t ≠ 0) = false) := hide (by simp [hf.1])
    have h32 : (z == 32) = true := by rw [hf.2]; rfl
    have HF := hide hf
    clear hf
    go_enter Try.func10, Try.ntmps10
    go_wp2_with (at_lookup; refine wpList_lookup_own_ok_int _ rfl _ _ 43 rfl 9 3 .i64 keyedS Try.underlying43 Try.underlying3 (zeroI _) b _ D rfl M.out _ _ rfl HK.out ?_; intro y hat hwc; rw [HAS.out, HQ.out]; clear hat hwc)
    go_ret
    refine .inr (.inl ⟨rfl, by omega, HF.out.1, ?_, rfl⟩)
    have h2 := HC.out
    have h3 := HZ.out
    have h4 := HF.out.2
    rw [show Maps.size D = 32 by omega] at h2
    exact h2
  · have hnot : F t ≠ 0 ∨ ¬ Cnt F 32 := by
      by_cases h0 : F t = 0
      · refine .inr fun hc => hf ⟨h0, ?_⟩
        have := HC.out.uniq hc
        have := HZ.out
        omega
      · exact .inl h0
    have HNOT := hide hnot
    obtain ⟨q, hq⟩ : ∃ q, decide (F t ≠ 0) = q := ⟨_, rfl⟩
    rw [hq] at HAS
    have HQ := hide hq
    have hroom : Maps.size D < 32 ∨ Maps.has D (.string t) = true := by
      rw [HAS.out]
      by_cases h0 : F t = 0
      · left
        have := HSL.out
        have h5 : z ≠ 32 := fun e => hf ⟨h0, e⟩
        have := HZ.out
        omega
      · right
        rw [← hq]
        simp [h0]
    have HR := hide hroom
    have h32 : q = false → (z == 32) = false := by
      intro e
      rw [e] at hq
      have h0 : F t = 0 := by simpa using hq
      exact beq_eq_false_iff_ne.2 (fun e => hf ⟨h0, e⟩)
    clear hf hnot hq hroom
    go_enter Try.func10, Try.ntmps10
    have go : ∀ (q' : Bool), True := fun _ => trivial
    cases q
    all_goals
      (try have h33 := h32 rfl)
      clear h32
      go_wp2_with (at_lookup; refine wpList_lookup_own_ok_int _ rfl _ _ 43 rfl 9 3 .i64 keyedS Try.underlying43 Try.underlying3 (zeroI _) b _ D rfl M.out _ _ rfl HK.out ?_; intro y hat hwc; rw [HAS.out]; clear hat hwc)
      refine wp_region_held_drew (S := fun x => Blk x tp 45 #[.map (some b)]) (by kernel_rfl) HA.out.blk (fun hHeld => ?_)
      refine rgA (F := fun _ => True) (fun _ _ => trivial) ?_
      refine rgA (F := fun _ => True) (fun _ _ => trivial) ?_
      refine rgA (F := fun _ => True) (fun _ _ => trivial) ?_
      refine rgA (F := fun w => w.cell? ⟨tp, 0, none⟩ = some (.map (some b))) (fun w hw => by rw [Blk.cell hw]; rfl) ?_
      refine rgA (F := fun _ => True) (fun _ _ => trivial) ?_
      refine region_take (i := 6) (v := ?_) rfl (by kernel_rfl) (by kernel_rfl) (by kernel_rfl) (fun _ _ _ h => h) (Or.inl ⟨by rfl, ?_⟩) (by assumption) ?_
      rotate_left
      · (intro w' hSw; (try dsimp only at hSw); go_simp <;> with_reducible rfl)
      simp only [Act.put, List.setIfInBounds_toArray, List.set_cons_zero, List.set_cons_succ]
      refine rgB (strings_clone s _ HS.out) ?_ (hb := fun _ _ h hb => Blk.below h hb (Blk.lt h))
      intro w1 hHeld hb1
      have hm1 := (M.out.drew).kept (grown_of_below hb1 none) (by simp)
      obtain ⟨w2, r2, m2, t2⟩ := hm1.store keyedS Try.underlying43 (by unfold maxLen; decide) HK.out (plain_int HW.out)
      have R2 := hide r2
      have M2 := hide m2
      have T2 := hide t2
      have HB := hide hb1
      have BK := hide (Blk.grown (w' := w2) hHeld t2.grown (fun e => HA.out.ne (by injection e)))
      clear r2 m2 t2 hb1 hm1
      refine region_store (i := 7) rfl (by kernel_rfl) (by rfl) (exec_mapUpdate (.tmp 33) (.tmp 35) (.tmp 36) rfl rfl rfl rfl R2.out) (BK.out) (fun hHeld => ?_)
      simp only [Act.put, List.setIfInBounds_toArray, List.set_cons_zero, List.set_cons_succ]
      refine wpAnyH_done (by kernel_rfl) ?_ _
      go_wp2_with fail
      go_ret
      refine .inr (.inr ⟨rfl, by omega, HNOT.out, ⟨HA.out.ne, BK.out, D.put (.string t) (.lit (.int .i64 n)), ?_, ?_⟩, ?_⟩)
      · refine (own_tight M2.out).mono ?_
        rw [Maps.size_put HTY.out]
        have := HSL.out
        split
        · omega
        · rename_i h0
          rcases HR.out with h | h
          · omega
          · exact absurd h h0
      · have e : n = ((n.toNat : Nat) : Int) := by omega
        have hp := HDD.out.put (n := n.toNat) HTY.out.isMap t (by omega)
        rw [← e] at hp
        exact hp
      · exact grown_trans (grown_trans (grown_drew (grown_refl w (some b))) (grown_of_below HB.out _)) T2.out.grown
end Go.Proofs.Ytejcgicedjmedaa
