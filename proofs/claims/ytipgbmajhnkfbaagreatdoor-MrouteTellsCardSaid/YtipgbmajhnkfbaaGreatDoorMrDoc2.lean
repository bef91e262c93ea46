/-
  What rough, the document's reading of a body of layer 7, does at the kinds that a leaf answers, in whatever memory. No condition beyond sizes that fit memory.
-/
import Derived.Test.YtipgbmajhnkfbaaGreatDoorMrDoc1
import Derived.Test.YtipgbmajhnkfbaaGreatDoorMrRef1
import Derived.Test.YtipgbmajhnkfbaaGreatDoorMrLeaf
import Derived.Test.YtipgbmajhnkfbaaGreatDoorRefRd
set_option maxRecDepth 20000
set_option maxHeartbeats 4000000
namespace Go.Proofs.YtipgbmajhnkfbaaGreatDoor
open Go.RowKit
set_option linter.unusedVariables false
set_option linter.unusedSimpArgs false
theorem exec_store_mro2 {o : Oper} {a : Act} {w : World} (x y : Operand) (ho : o.op = .store 28 x y)
    (g : Nat) (hx : a.eval x = .pointer (some ⟨g, 0, none⟩)) {m : Mr} (hy : a.eval y = .agg (mroC m)) (hm : m.W) {t : TypeId} {old : Array Value} (h : Blk w g t old) (hold : old.size = 62) :
    (execOp a.eval o).run Tryz.prog w = .ok .skip (w.setRow g (mroC m)) := by
  have hi : (Tryz.prog.info? 28).map (·.size) = some (mroC m).size := by rw [mro_size hm]; kernel_rfl
  unfold execOp
  simp only [ho, hx, hy, Instr.storeAt, Instr.sureAddr, Sem.run_bind, Sem.run_pure, Result.andThen_ok, run_storeVar_row w g t 28 old (mroC m) h hi (by rw [mro_size hm, hold]) mro_one]
section
variable {ops : Array Oper} {rest : List Oper} {o : Oper} {a : Act} {w : World} {Q : Exit → Act → World → Prop} {m : Mr}
theorem wpList_store_rd_in (hgd : o.guard = none) (x y : Operand) (ho : o.op = .store 23 x y) (g : Nat) (hx : a.eval x = .pointer (some ⟨g, 1, none⟩)) {d : List UInt8} (hy : a.eval y = .agg (rdC d)) (hd : d.length = 8)
    {t : TypeId} (h : Blk w g t (mroC m)) (hm : m.W) (hk : ∀ w', Blk w' g t (mroC { m with rd := d }) → w.grownBy w' (some g) → wpList Tryz.prog ops Q rest (a.put o.dst undef) w') : wpList Tryz.prog ops Q (o :: rest) a w := by
  have hs : (rdC d).size = 8 := by simp [rdC, bvs, hd]
  refine wpList_store_mid hgd 23 x y ho g 1 (rdC d) hx hy (by rw [hs]; exact mro_there h hm (by omega)) (by rw [hs]; kernel_rfl) (all_oneCell_toArray (bvs_one d)) (hk _ ?_ (grown_setCells _ _ _ _ (grown_refl w _)))
  exact mro_set_rd h hm hd
theorem wpList_store_a_in (n : Nat) (hgd : o.guard = none) (x y : Operand) (ho : o.op = .store 26 x y) (g : Nat) (hx : a.eval x = .pointer (some ⟨g, n, none⟩)) {s : Int} {bs : List UInt8} (hy : a.eval y = .agg (addrC s bs)) (hl : bs.length = 16)
    {t : TypeId} (h : Blk w g t (mroC m)) (hm : m.W) (hn : n + 17 ≤ 62) {m' : Mr} (hset : Blk (w.setCells g n (.int .i64 s :: bvs bs)) g t (mroC m')) (hk : ∀ w', Blk w' g t (mroC m') → w.grownBy w' (some g) → wpList Tryz.prog ops Q rest (a.put o.dst undef) w') : wpList Tryz.prog ops Q (o :: rest) a w := by
  have hs := addrC_size s hl
  refine wpList_store_mid hgd 26 x y ho g n (addrC s bs) hx hy (by rw [hs]; exact mro_there h hm hn) (by rw [hs]; kernel_rfl) (addrC_one s bs) (hk _ ?_ (grown_setCells _ _ _ _ (grown_refl w _)))
  exact hset
end
theorem DRd.keep2 {w w' : World} {lo g : Nat} {bs : List UInt8} {bad : Bool} (h : DRd w lo g bs bad) {row : Option Nat} (hg : w.grownBy w' row) (hr : ∀ k, row = some k → k < lo ∧ k ≠ g ∨ g < k) : DRd w' lo g bs bad := by
  obtain ⟨A, n, c, k, all, hb, ha, hA, hc, hn, hk, he⟩ := h
  have hl := hb.lt
  refine ⟨A, n, c, k, all, hb.grown hg (fun e => ?_), ha.grown hg (by omega) (fun q hq => ?_), hA, hc, hn, hk, he⟩
  · have := hr g e.symm; omega
  · have := hr q hq; omega
structure RgS (w x : World) (lo q g : Nat) (m : Mr) (bs : List UInt8) (bad : Bool) : Prop where
  res : Blk x w.heap.size 28 (mroC (bareM 0))
  mb : Blk x q 28 (mroC m)
  r : DRd x lo g bs bad
  bel : Below w.heap.size w x
  mw : m.W
  h1 : w.heap.size < q
  h2 : q < lo
  h3 : lo ≤ g
section
variable {w x y : World} {lo q g : Nat} {m : Mr} {bs : List UInt8} {bad : Bool}
theorem RgS.over (h : RgS w x lo q g m bs bad) (hb : Below x.heap.size x y) : RgS w y lo q g m bs bad := ⟨h.res.over hb, h.mb.over hb, h.r.on hb, below_step h.bel hb (Nat.le_refl _), h.mw, h.h1, h.h2, h.h3⟩
theorem RgS.drew (h : RgS w x lo q g m bs bad) : RgS w x.drew lo q g m bs bad := ⟨h.res.drew, h.mb.drew, h.r.drewN 1, below_drew h.bel, h.mw, h.h1, h.h2, h.h3⟩
theorem RgS.rd (h : RgS w x lo q g m bs bad) {bs' : List UInt8} {bad' : Bool} (hd : DRd y lo g bs' bad') (hg : x.grownBy y (some g)) : RgS w y lo q g m bs' bad' := by
  have h1 := h.h1
  have h2 := h.h2
  have h3 := h.h3
  exact ⟨h.res.grown hg (fun e => by injection e with e; omega), h.mb.grown hg (fun e => by injection e with e; omega), hd, h.bel.grown hg h.bel.size (fun k hk => by injection hk with hk; omega), h.mw, h1, h2, h3⟩
theorem RgS.set (h : RgS w x lo q g m bs bad) {m' : Mr} (hm : Blk y q 28 (mroC m')) (hw : m'.W) (hg : x.grownBy y (some q)) : RgS w y lo q g m' bs bad := by
  have h1 := h.h1
  have h2 := h.h2
  have h3 := h.h3
  exact ⟨h.res.grown hg (fun e => by injection e with e; omega), hm, h.r.keep2 hg (fun k hk => by injection hk with hk; omega), h.bel.grown hg h.bel.size (fun k hk => by injection hk with hk; omega), hw, h1, h2, h3⟩
end
def RgF (w x : World) (lo q g : Nat) (r : Mr) (bs : List UInt8) (bad : Bool) : Prop :=
  (∃ old : Array Value, old.size = 62 ∧ Blk x w.heap.size 28 old) ∧ Blk x q 28 (mroC r) ∧ DRd x lo g bs bad ∧ Below w.heap.size w x
section
variable {w x y : World} {lo q g : Nat} {m : Mr} {bs : List UInt8} {bad : Bool}
theorem RgF.of (h : RgS w x lo q g m bs bad) : RgF w x lo q g m bs bad := ⟨⟨_, mro_size (bare_W 0), h.res⟩, h.mb, h.r, h.bel⟩
theorem RgF.over (h : RgF w x lo q g m bs bad) (hb : Below x.heap.size x y) : RgF w y lo q g m bs bad := by
  obtain ⟨⟨old, h1, h2⟩, h3, h4, h5⟩ := h
  exact ⟨⟨old, h1, h2.over hb⟩, h3.over hb, h4.on hb, below_step h5 hb (Nat.le_refl _)⟩
theorem RgF.put (h : RgF w x lo q g m bs bad) (hm : m.W) {old : Array Value} (ho : Blk x w.heap.size 28 old) (h1 : w.heap.size < q) (h2 : q < lo) (h3 : lo ≤ g) : RgF w (x.setRow w.heap.size (mroC m)) lo q g m bs bad := by
  have hg := grown_setRow x w.heap.size (mroC m)
  exact ⟨⟨_, mro_size hm, ho.setRow _⟩, h.2.1.grown hg (fun e => by injection e with e; omega), h.2.2.1.keep2 hg (fun k hk => by injection hk with hk; omega), h.2.2.2.grown hg h.2.2.2.size (fun k hk => by injection hk with hk; omega)⟩
end
def RoughPost (w : World) (k : Int) (b : List UInt8) (e : Ending) (w' : World) : Prop :=
  ∃ r ok, e = .returned (.tuple #[.agg (mroC r), .bool ok]) ∧ r.W ∧ (∀ m, decM k b = some m → ok = true ∧ r = m) ∧ (decM k b = none → ok = false) ∧ Below w.heap.size w w'
theorem stepB_nat {b : List UInt8} {k : Nat} : stepB b (k : Int) = decide (k ≤ b.length) := by
  unfold stepB
  rw [decide_eq_decide]
  omega
theorem step_nat {b : List UInt8} {k : Nat} (h : k ≤ b.length) : stepTaken b (k : Int) = b.take k ∧ stepRest b (k : Int) = b.drop k := step_in h
theorem pad8_take {b : List UInt8} (h : 8 ≤ b.length) : pad8 (b.take 8) = b.take 8 := pad8_full (by rw [List.length_take]; omega)
theorem dec_key {k : Int} {b : List UInt8} (h : k ≠ 4) : decKey k b = some ([], b) := by unfold decKey; rw [if_neg h]
theorem dec_rd {k : Int} {b : List UInt8} (hk : nRd k = true) (h : 8 ≤ b.length) : decRd k b = some (b.take 8, b.drop 8) := by unfold decRd; rw [if_pos hk, if_pos h]
theorem dec_as {k : Int} {b : List UInt8} (hk : nAs k = true) (h : 4 ≤ b.length) : decAs k b = some (((big (b.take 4) : Nat) : Int), b.drop 4) := by unfold decAs; rw [if_pos hk, if_pos h]
theorem dec_as0 {k : Int} {b : List UInt8} (hk : nAs k = false) : decAs k b = some (0, b) := by unfold decAs; rw [if_neg (by rw [hk]; decide)]
theorem dec_ad0 {k : Int} {b : List UInt8} (hk : nAd k = false) : decAd k b = some (((0, zero16), (0, zero16)), b) := by unfold decAd; rw [if_neg (by rw [hk]; decide)]
theorem dec_fr0 {k : Int} {b : List UInt8} (hk : nFr k = false) : decFr k b = if b = [] then some (0, zero16) else none := by unfold decFr; rw [if_neg (by rw [hk]; decide)]
theorem dec_2 {b : List UInt8} {ok : Bool} {r : Mr} (hr : r = { { bareM 2 with rd := pad8 (stepTaken b ((8 : Nat) : Int)) } with a := ((big (stepTaken (stepRest b ((8 : Nat) : Int)) ((4 : Nat) : Int)) : Nat) : Int) })
    (ho : ok = (!((false || !stepB b ((8 : Nat) : Int)) || !stepB (stepRest b ((8 : Nat) : Int)) ((4 : Nat) : Int)) && decide (stepRest (stepRest b ((8 : Nat) : Int)) ((4 : Nat) : Int) = []))) :
    (∀ m, decM 2 b = some m → ok = true ∧ r = m) ∧ (decM 2 b = none → ok = false) := by
  rw [stepB_nat, stepB_nat] at ho
  by_cases h8 : 8 ≤ b.length
  · obtain ⟨a1, a2⟩ := step_nat h8
    rw [a1, a2] at hr
    rw [a2, decide_eq_true h8] at ho
    by_cases h4 : 4 ≤ (b.drop 8).length
    · obtain ⟨c1, c2⟩ := step_nat h4
      rw [c1] at hr
      rw [c2, decide_eq_true h4] at ho
      have hd : decM 2 b = if (b.drop 8).drop 4 = [] then some ⟨2, b.take 8, ((big ((b.drop 8).take 4) : Nat) : Int), 0, zero16, 0, zero16, 0, zero16, []⟩ else none := by
        unfold decM
        rw [dec_key (by decide), Option.bind_some, dec_rd rfl h8, Option.bind_some]
        simp only
        rw [dec_as rfl h4, Option.bind_some]
        simp only
        rw [dec_ad0 rfl, Option.bind_some]
        simp only
        rw [dec_fr0 rfl]
        split <;> rfl
      rw [hd]
      by_cases he : (b.drop 8).drop 4 = []
      · rw [if_pos he]
        rw [decide_eq_true he] at ho
        refine ⟨fun m h => ?_, (fun h => by cases h)⟩
        injection h with h
        refine ⟨ho, ?_⟩
        rw [hr, ← h, pad8_take h8]
        rfl
      · rw [if_neg he]
        rw [decide_eq_false he] at ho
        exact ⟨(fun m h => by cases h), fun _ => ho⟩
    · have hd : decM 2 b = none := by
        unfold decM
        rw [dec_key (by decide), Option.bind_some, dec_rd rfl h8, Option.bind_some]
        simp only
        rw [show decAs 2 (b.drop 8) = none by unfold decAs; rw [if_pos (show nAs 2 = true from rfl), if_neg h4]]
        rfl
      rw [hd]
      rw [decide_eq_false h4] at ho
      exact ⟨(fun m h => by cases h), (fun _ => by rw [ho]; rfl)⟩
  · have hd : decM 2 b = none := by
      unfold decM
      rw [dec_key (by decide), Option.bind_some, show decRd 2 b = none by unfold decRd; rw [if_pos (by decide), if_neg h8]]
      rfl
    rw [hd]
    rw [decide_eq_false h8] at ho
    exact ⟨(fun m h => by cases h), (fun _ => by rw [ho]; rfl)⟩
theorem dec_3 {b : List UInt8} {ok : Bool} {r : Mr} {s1 s2 : Int} {x1 x2 b2 b3 : List UInt8} {f2 f3 : Bool} (h1 : ReadA (stepRest b ((8 : Nat) : Int)) (false || !stepB b ((8 : Nat) : Int)) s1 x1 b2 f2) (h2 : ReadA b2 f2 s2 x2 b3 f3)
    (hr : r = { { { { bareM 3 with rd := pad8 (stepTaken b ((8 : Nat) : Int)) } with ss := s1, sb := x1 } with gs := s2, gb := x2 } with fs := ofS b3, fb := ofB b3 })
    (ho : ok = (decide (ofE b3 = 0) && !f3)) :
    (∀ m, decM 3 b = some m → ok = true ∧ r = m) ∧ (decM 3 b = none → ok = false) := by
  rw [stepB_nat] at h1
  by_cases h8 : 8 ≤ b.length
  · obtain ⟨a1, a2⟩ := step_nat h8
    rw [a1] at hr
    rw [a2, decide_eq_true h8] at h1
    have hd : decM 3 b = (decA (b.drop 8)).bind fun p => (decA p.2).bind fun q => if sizeA (q.2.length : Nat) = true then some ⟨3, b.take 8, 0, p.1.1, p.1.2, q.1.1, q.1.2, ofS q.2, ofB q.2, []⟩ else none := by
      unfold decM
      rw [dec_key (by decide), Option.bind_some, dec_rd rfl h8, Option.bind_some]
      simp only
      rw [dec_as0 rfl, Option.bind_some]
      simp only
      unfold decAd
      rw [if_pos (show nAd 3 = true from rfl)]
      cases ha : decA (b.drop 8) with
      | none => rfl
      | some p =>
        simp only [Option.bind_some]
        cases hb : decA p.2 with
        | none => rfl
        | some q =>
          simp only [Option.map_some, Option.bind_some]
          unfold decFr
          rw [if_pos (show nFr 3 = true from rfl)]
          split <;> rfl
    rw [hd]
    cases ha : decA (b.drop 8) with
    | none =>
      have e1 := h1.2.2 (.inr ha)
      have e2 := h2.2.2 (.inl e1)
      rw [e2] at ho
      exact ⟨(fun m h => by cases h), (fun _ => by rw [ho]; simp)⟩
    | some p =>
      obtain ⟨e1, e2, e3, e4⟩ := h1.2.1 p.1 p.2 rfl ha
      subst e1 e2 e3 e4
      simp only [Option.bind_some]
      cases hb : decA p.2 with
      | none =>
        have e2 := h2.2.2 (.inr hb)
        rw [e2] at ho
        exact ⟨(fun m h => by cases h), (fun _ => by rw [ho]; simp)⟩
      | some q =>
        obtain ⟨e1, e2, e3, e4⟩ := h2.2.1 q.1 q.2 rfl hb
        subst e1 e2 e3 e4
        simp only [Option.bind_some]
        by_cases hz : sizeA (q.2.length : Nat) = true
        · rw [if_pos hz]
          have e0 : ofE q.2 = 0 := by unfold ofE; rw [if_pos hz]
          rw [e0] at ho
          refine ⟨fun m h => ?_, (fun h => by cases h)⟩
          injection h with h
          refine ⟨by rw [ho]; rfl, ?_⟩
          rw [hr, ← h, pad8_take h8]
          rfl
        · rw [if_neg hz]
          have e0 : ofE q.2 ≠ 0 := by unfold ofE; rw [if_neg hz]; decide
          rw [decide_eq_false e0] at ho
          exact ⟨(fun m h => by cases h), (fun _ => by rw [ho]; rfl)⟩
  · have hd : decM 3 b = none := by
      unfold decM
      rw [dec_key (by decide), Option.bind_some, show decRd 3 b = none by unfold decRd; rw [if_pos (by decide), if_neg h8]]
      rfl
    rw [hd]
    rw [decide_eq_false h8] at h1
    have e1 := h1.2.2 (.inl rfl)
    have e2 := h2.2.2 (.inl e1)
    rw [e2] at ho
    exact ⟨(fun m h => by cases h), (fun _ => by rw [ho]; simp)⟩
theorem rough_2 (w : World) (lo hi : Nat) (A : Option Addr) (n c : Nat) (b : List UInt8) (h : At w lo hi A n b) (hh : hi ≤ w.heap.size) (hn : n ≤ 140737488351232) :
    Calls Tryz.prog 97 #[.int .i64 2, .slice A n c] w (RoughPost w 2 b) := by
  have RES : Hid (Blk (w.alloc (.cells #[.int .i64 0, .int .u8 0, .int .u8 0, .int .u8 0, .int .u8 0, .int .u8 0, .int .u8 0, .int .u8 0, .int .u8 0, .int .i64 0, .int .i64 0, .int .u8 0, .int .u8 0, .int .u8 0, .int .u8 0, .int .u8 0, .int .u8 0, .int .u8 0, .int .u8 0, .int .u8 0, .int .u8 0, .int .u8 0, .int .u8 0, .int .u8 0, .int .u8 0, .int .u8 0, .int .u8 0, .int .i64 0, .int .u8 0, .int .u8 0, .int .u8 0, .int .u8 0, .int .u8 0, .int .u8 0, .int .u8 0, .int .u8 0, .int .u8 0, .int .u8 0, .int .u8 0, .int .u8 0, .int .u8 0, .int .u8 0, .int .u8 0, .int .u8 0, .int .i64 0, .int .u8 0, .int .u8 0, .int .u8 0, .int .u8 0, .int .u8 0, .int .u8 0, .int .u8 0, .int .u8 0, .int .u8 0, .int .u8 0, .int .u8 0, .int .u8 0, .int .u8 0, .int .u8 0, .int .u8 0, .int .u8 0, .string ⟨#[]⟩] 28)) w.heap.size 28 (mroC (bareM 0))) := hide (by rw [bareC0]; exact Blk.new w _ _)
  have W0 := hide ((Below.refl w.heap.size w).alloc (Nat.le_refl _) (.cells #[.int .i64 0, .int .u8 0, .int .u8 0, .int .u8 0, .int .u8 0, .int .u8 0, .int .u8 0, .int .u8 0, .int .u8 0, .int .i64 0, .int .i64 0, .int .u8 0, .int .u8 0, .int .u8 0, .int .u8 0, .int .u8 0, .int .u8 0, .int .u8 0, .int .u8 0, .int .u8 0, .int .u8 0, .int .u8 0, .int .u8 0, .int .u8 0, .int .u8 0, .int .u8 0, .int .u8 0, .int .i64 0, .int .u8 0, .int .u8 0, .int .u8 0, .int .u8 0, .int .u8 0, .int .u8 0, .int .u8 0, .int .u8 0, .int .u8 0, .int .u8 0, .int .u8 0, .int .u8 0, .int .u8 0, .int .u8 0, .int .u8 0, .int .u8 0, .int .i64 0, .int .u8 0, .int .u8 0, .int .u8 0, .int .u8 0, .int .u8 0, .int .u8 0, .int .u8 0, .int .u8 0, .int .u8 0, .int .u8 0, .int .u8 0, .int .u8 0, .int .u8 0, .int .u8 0, .int .u8 0, .int .u8 0, .string ⟨#[]⟩] 28))
  have HA := hide (h.alloc hh (.cells #[.int .i64 0, .int .u8 0, .int .u8 0, .int .u8 0, .int .u8 0, .int .u8 0, .int .u8 0, .int .u8 0, .int .u8 0, .int .i64 0, .int .i64 0, .int .u8 0, .int .u8 0, .int .u8 0, .int .u8 0, .int .u8 0, .int .u8 0, .int .u8 0, .int .u8 0, .int .u8 0, .int .u8 0, .int .u8 0, .int .u8 0, .int .u8 0, .int .u8 0, .int .u8 0, .int .u8 0, .int .i64 0, .int .u8 0, .int .u8 0, .int .u8 0, .int .u8 0, .int .u8 0, .int .u8 0, .int .u8 0, .int .u8 0, .int .u8 0, .int .u8 0, .int .u8 0, .int .u8 0, .int .u8 0, .int .u8 0, .int .u8 0, .int .u8 0, .int .i64 0, .int .u8 0, .int .u8 0, .int .u8 0, .int .u8 0, .int .u8 0, .int .u8 0, .int .u8 0, .int .u8 0, .int .u8 0, .int .u8 0, .int .u8 0, .int .u8 0, .int .u8 0, .int .u8 0, .int .u8 0, .int .u8 0, .string ⟨#[]⟩] 28))
  have hs0 : (w.alloc (.cells #[.int .i64 0, .int .u8 0, .int .u8 0, .int .u8 0, .int .u8 0, .int .u8 0, .int .u8 0, .int .u8 0, .int .u8 0, .int .i64 0, .int .i64 0, .int .u8 0, .int .u8 0, .int .u8 0, .int .u8 0, .int .u8 0, .int .u8 0, .int .u8 0, .int .u8 0, .int .u8 0, .int .u8 0, .int .u8 0, .int .u8 0, .int .u8 0, .int .u8 0, .int .u8 0, .int .u8 0, .int .i64 0, .int .u8 0, .int .u8 0, .int .u8 0, .int .u8 0, .int .u8 0, .int .u8 0, .int .u8 0, .int .u8 0, .int .u8 0, .int .u8 0, .int .u8 0, .int .u8 0, .int .u8 0, .int .u8 0, .int .u8 0, .int .u8 0, .int .i64 0, .int .u8 0, .int .u8 0, .int .u8 0, .int .u8 0, .int .u8 0, .int .u8 0, .int .u8 0, .int .u8 0, .int .u8 0, .int .u8 0, .int .u8 0, .int .u8 0, .int .u8 0, .int .u8 0, .int .u8 0, .int .u8 0, .string ⟨#[]⟩] 28)).heap.size = w.heap.size + 1 := by simp
  have HS0 := hide hs0
  clear h hs0
  go_enter Tryz.func97, Tryz.ntmps97
  go_wp2_with ((with_reducible refine wpList_build_bare rfl (.tmp 15) rfl 2 rfl ?_); refine Hid.out ?_)
  refine hide ?_
  generalize hw0 : w.alloc (.cells #[.int .i64 0, .int .u8 0, .int .u8 0, .int .u8 0, .int .u8 0, .int .u8 0, .int .u8 0, .int .u8 0, .int .u8 0, .int .i64 0, .int .i64 0, .int .u8 0, .int .u8 0, .int .u8 0, .int .u8 0, .int .u8 0, .int .u8 0, .int .u8 0, .int .u8 0, .int .u8 0, .int .u8 0, .int .u8 0, .int .u8 0, .int .u8 0, .int .u8 0, .int .u8 0, .int .u8 0, .int .i64 0, .int .u8 0, .int .u8 0, .int .u8 0, .int .u8 0, .int .u8 0, .int .u8 0, .int .u8 0, .int .u8 0, .int .u8 0, .int .u8 0, .int .u8 0, .int .u8 0, .int .u8 0, .int .u8 0, .int .u8 0, .int .u8 0, .int .i64 0, .int .u8 0, .int .u8 0, .int .u8 0, .int .u8 0, .int .u8 0, .int .u8 0, .int .u8 0, .int .u8 0, .int .u8 0, .int .u8 0, .int .u8 0, .int .u8 0, .int .u8 0, .int .u8 0, .int .u8 0, .int .u8 0, .string ⟨#[]⟩] 28) = w0 at RES W0 HA HS0 ⊢
  clear hw0
  have NEW := hide (Blk.new w0 28 #[.int .i64 0, .int .u8 0, .int .u8 0, .int .u8 0, .int .u8 0, .int .u8 0, .int .u8 0, .int .u8 0, .int .u8 0, .int .i64 0, .int .i64 0, .int .u8 0, .int .u8 0, .int .u8 0, .int .u8 0, .int .u8 0, .int .u8 0, .int .u8 0, .int .u8 0, .int .u8 0, .int .u8 0, .int .u8 0, .int .u8 0, .int .u8 0, .int .u8 0, .int .u8 0, .int .u8 0, .int .i64 0, .int .u8 0, .int .u8 0, .int .u8 0, .int .u8 0, .int .u8 0, .int .u8 0, .int .u8 0, .int .u8 0, .int .u8 0, .int .u8 0, .int .u8 0, .int .u8 0, .int .u8 0, .int .u8 0, .int .u8 0, .int .u8 0, .int .i64 0, .int .u8 0, .int .u8 0, .int .u8 0, .int .u8 0, .int .u8 0, .int .u8 0, .int .u8 0, .int .u8 0, .int .u8 0, .int .u8 0, .int .u8 0, .int .u8 0, .int .u8 0, .int .u8 0, .int .u8 0, .int .u8 0, .string ⟨#[]⟩])
  go_wp2_with (refine wpList_store_mro rfl (.tmp 6) (.tmp 16) rfl w0.heap.size rfl (m := bareM 2) rfl (bare_W 2) NEW.out rfl ?_; intro w1 hb1 hg1; have M1 := hide hb1; have W01 : Hid (Below w0.heap.size w0 w1) := hide (((Below.refl _ _).alloc (Nat.le_refl _) _).grown hg1 (by simp) (by simp)); clear hb1 hg1; refine Hid.out ?_)
  refine hide ?_
  have RES1 := hide (RES.out.over W01.out)
  have W1 := hide (below_step W0.out W01.out (Nat.le_refl _))
  have HA1 := hide (HA.out.below (W01.out.mono (by have := HS0.out; omega)))
  have hq := M1.out.lt
  rw [HS0.out] at M1 hq ⊢
  clear NEW RES W0 HA W01
  go_wp2_with fail
  refine (refwhat_2 w1).mono ?_
  rintro e w2 ⟨rfl, hb2⟩
  have RES2 := hide (RES1.out.over hb2)
  have W2 := hide (below_step W1.out hb2 (Nat.le_refl _))
  have HA2 := hide (HA1.out.below (hb2.mono (by omega)))
  have M2 := hide (M1.out.over hb2)
  have hq2 : w.heap.size + 1 < w2.heap.size := Nat.lt_of_lt_of_le hq hb2.size
  clear hb2 RES1 W1 HA1 M1 hq
  go_wp2_with fail
  refine (dopen_any w2 lo hi A n c b HA2.out (by omega) hn).mono ?_
  rintro e w3 ⟨g, rfl, hgl, hd3, hb3⟩
  have S3 : Hid (RgS w w3 w2.heap.size (w.heap.size + 1) g (bareM 2) b false) := hide ⟨RES2.out.over hb3, M2.out.over hb3, hd3, below_step W2.out hb3 (Nat.le_refl _), bare_W 2, Nat.lt_succ_self _, hq2, hgl⟩
  generalize w2.heap.size = L at *
  clear hgl hd3 hb3 RES2 W2 HA2 M2 hq2
  go_wp2_with fail
  refine (dtake_any w3 L g b false S3.out.r ((8 : Nat) : Int) (by decide)).mono ?_
  rintro e w4 ⟨v4, rfl, ho4, hd4, hg4⟩
  obtain ⟨A4, c4, rfl, _, _⟩ := own_shape ho4
  have AT4 := hide (At.own ho4)
  have S4 := hide (S3.out.rd hd4 hg4)
  have hl4 := stepTaken_nat (bs := b) (n := ((8 : Nat) : Int)) (k := 8) (by decide)
  clear ho4 hd4 hg4 S3
  go_wp2_with fail
  refine (refof_any w4 _ _ A4 _ c4 _ AT4.out (Nat.le_refl _) (by omega)).mono ?_
  rintro e w5 ⟨rfl, hb5⟩
  have S5 := hide (S4.out.over hb5)
  clear hb5 S4 AT4 hl4
  have LD := hide (pad8_len (stepTaken b ((8 : Nat) : Int)))
  generalize hD : pad8 (stepTaken b ((8 : Nat) : Int)) = D at *
  generalize hB1 : stepRest b ((8 : Nat) : Int) = b1 at *
  generalize hF1 : (false || !stepB b ((8 : Nat) : Int)) = f1 at *
  have HD := hide hD
  have HB1 := hide hB1
  have HF1 := hide hF1
  clear hD hB1 hF1
  go_wp2_with (refine wpList_store_rd_in rfl (.tmp 52) (.tmp 51) rfl (w.heap.size + 1) rfl (d := D) rfl LD.out S5.out.mb S5.out.mw ?_; intro w6 hb6 hg6; have S6 := hide (S5.out.set (m' := { bareM 2 with rd := D }) hb6 ⟨LD.out, rfl, rfl, rfl⟩ hg6); clear hb6 hg6; refine Hid.out ?_)
  refine hide ?_
  clear S5
  go_wp2_with fail
  refine (dnum4_any w6 L g b1 f1 S6.out.r).mono ?_
  rintro e w7 ⟨rfl, hd7, hg7⟩
  have S7 := hide (S6.out.rd hd7 hg7)
  clear hd7 hg7 S6
  have HO := hide (fun ok r (hr : r = { { bareM 2 with rd := D } with a := ((big (stepTaken b1 ((4 : Nat) : Int)) : Nat) : Int) }) (ho : ok = (!(f1 || !stepB b1 ((4 : Nat) : Int)) && decide (stepRest b1 ((4 : Nat) : Int) = []))) => by
    rw [← HD.out, ← HB1.out] at hr
    rw [← HF1.out, ← HB1.out] at ho
    exact dec_2 hr ho)
  generalize ((big (stepTaken b1 ((4 : Nat) : Int)) : Nat) : Int) = V at *
  generalize (f1 || !stepB b1 ((4 : Nat) : Int)) = f2 at *
  generalize stepRest b1 ((4 : Nat) : Int) = b2 at *
  have k9 := (S7.out.mb.cell 9).trans (mroC_9 S7.out.mw)
  have fz9 := S7.out.mb.frozen 9
  have S8 : Hid (RgS w (w7.setCell ⟨w.heap.size + 1, 9, none⟩ (.int .i64 V)) L (w.heap.size + 1) g { { bareM 2 with rd := D } with a := V } b2 f2) := hide (S7.out.set (mro_set_a S7.out.mb S7.out.mw V) ⟨LD.out, rfl, rfl, rfl⟩ (grown_setCell (grown_refl _ _) (.inl rfl) _))
  go_wp2_with fail
  generalize w7.setCell ⟨w.heap.size + 1, 9, none⟩ (.int .i64 V) = w8 at *
  clear S7 k9 fz9
  have HRR : Hid (({ { bareM 2 with rd := D } with a := V } : Mr) = { { bareM 2 with rd := D } with a := V }) := hide rfl
  generalize hr : ({ { bareM 2 with rd := D } with a := V } : Mr) = r at S8
  have HR := hide hr
  clear hr HRR
  have HO2 := hide (fun ok (ho : ok = (!f2 && decide (b2 = []))) => HO.out ok r HR.out.symm ho)
  clear HO
  obtain ⟨OK, hOK⟩ : ∃ OK, (!f2 && decide (b2 = [])) = OK := ⟨_, rfl⟩
  have HOK := hide hOK
  have RW := hide S8.out.mw
  have HFIN := hide (HO2.out OK hOK.symm)
  have hgq := S8.out.h2
  have hgl := S8.out.h3
  clear hOK HO2
  refine wp_region_held_drew (S := fun x => RgF w x L (w.heap.size + 1) g r b2 f2) (by kernel_rfl) (RgF.of S8.out.drew) (fun hHeld => ?_)
  refine region_take (i := 0) (v := (.agg (mroC r))) rfl (by kernel_rfl) (by kernel_rfl) (by kernel_rfl) (fun _ _ _ h => h) (Or.inl ⟨by rfl, ?_⟩) (by assumption) ?_
  · (intro w' hSw; exact exec_load_mro (.tmp 6) rfl (w.heap.size + 1) rfl hSw.2.1 RW.out)
  simp only [Act.put, List.setIfInBounds_toArray, List.set_cons_zero, List.set_cons_succ]
  refine region_take (i := 1) (v := ?_) rfl (by kernel_rfl) (by kernel_rfl) (by kernel_rfl) (fun _ _ _ h => h) (Or.inl ⟨by rfl, ?_⟩) (by assumption) ?_
  rotate_left
  · (intro w' hSw; (try dsimp only at hSw); go_simp <;> with_reducible rfl)
  simp only [Act.put, List.setIfInBounds_toArray, List.set_cons_zero, List.set_cons_succ]
  refine region_call (i := 2) rfl (by kernel_rfl) (by rfl) (ddone_any _ L g b2 f2 hHeld.2.2.1) (fun w => by kernel_rfl) ?_
  rintro e wd ⟨rfl, hbd⟩; rw [HOK.out]
  refine ⟨_, rfl, hHeld.over hbd, fun hHeld => ?_⟩
  simp only [Act.put, List.setIfInBounds_toArray, List.set_cons_zero, List.set_cons_succ]
  obtain ⟨old, hos, hob⟩ := hHeld.1
  have hbe := hHeld.2.2.2
  refine region_store (i := 3) rfl (by kernel_rfl) (by rfl) (exec_store_mro2 (.tmp 4) (.tmp 76) rfl w.heap.size rfl rfl RW.out hob hos) (hHeld.put RW.out hob (by omega) (by omega) (by omega)) (fun hHeld => ?_)
  simp only [Act.put, List.setIfInBounds_toArray, List.set_cons_zero, List.set_cons_succ]
  refine region_take (i := 4) (v := ?_) rfl (by kernel_rfl) (by kernel_rfl) (by kernel_rfl) (fun _ _ _ h => h) (Or.inl ⟨by rfl, ?_⟩) (by assumption) ?_
  rotate_left
  · (intro w' hSw; (try dsimp only at hSw); go_simp <;> with_reducible rfl)
  simp only [Act.put, List.setIfInBounds_toArray, List.set_cons_zero, List.set_cons_succ]
  refine wpAnyH_done (by kernel_rfl) ?_ _
  have MF := hide (hob.setRow (cs := mroC r))
  have BF := hide (hbe.grown (grown_setRow wd w.heap.size (mroC r)) hbe.size (fun k hk => by injection hk with hk; omega))
  generalize wd.setRow w.heap.size (mroC r) = we at *
  clear hHeld hob hbe
  go_wp2
  refine ret_mro2 (p := 4) (q := 5) (v := .bool OK) rfl rfl rfl MF.out RW.out rfl ?_
  exact ⟨r, OK, rfl, RW.out, HFIN.out.1, HFIN.out.2, BF.out⟩
theorem rough_3 (w : World) (lo hi : Nat) (A : Option Addr) (n c : Nat) (b : List UInt8) (h : At w lo hi A n b) (hh : hi ≤ w.heap.size) (hn : n ≤ 140737488351232) :
    Calls Tryz.prog 97 #[.int .i64 3, .slice A n c] w (RoughPost w 3 b) := by
  have RES : Hid (Blk (w.alloc (.cells #[.int .i64 0, .int .u8 0, .int .u8 0, .int .u8 0, .int .u8 0, .int .u8 0, .int .u8 0, .int .u8 0, .int .u8 0, .int .i64 0, .int .i64 0, .int .u8 0, .int .u8 0, .int .u8 0, .int .u8 0, .int .u8 0, .int .u8 0, .int .u8 0, .int .u8 0, .int .u8 0, .int .u8 0, .int .u8 0, .int .u8 0, .int .u8 0, .int .u8 0, .int .u8 0, .int .u8 0, .int .i64 0, .int .u8 0, .int .u8 0, .int .u8 0, .int .u8 0, .int .u8 0, .int .u8 0, .int .u8 0, .int .u8 0, .int .u8 0, .int .u8 0, .int .u8 0, .int .u8 0, .int .u8 0, .int .u8 0, .int .u8 0, .int .u8 0, .int .i64 0, .int .u8 0, .int .u8 0, .int .u8 0, .int .u8 0, .int .u8 0, .int .u8 0, .int .u8 0, .int .u8 0, .int .u8 0, .int .u8 0, .int .u8 0, .int .u8 0, .int .u8 0, .int .u8 0, .int .u8 0, .int .u8 0, .string ⟨#[]⟩] 28)) w.heap.size 28 (mroC (bareM 0))) := hide (by rw [bareC0]; exact Blk.new w _ _)
  have W0 := hide ((Below.refl w.heap.size w).alloc (Nat.le_refl _) (.cells #[.int .i64 0, .int .u8 0, .int .u8 0, .int .u8 0, .int .u8 0, .int .u8 0, .int .u8 0, .int .u8 0, .int .u8 0, .int .i64 0, .int .i64 0, .int .u8 0, .int .u8 0, .int .u8 0, .int .u8 0, .int .u8 0, .int .u8 0, .int .u8 0, .int .u8 0, .int .u8 0, .int .u8 0, .int .u8 0, .int .u8 0, .int .u8 0, .int .u8 0, .int .u8 0, .int .u8 0, .int .i64 0, .int .u8 0, .int .u8 0, .int .u8 0, .int .u8 0, .int .u8 0, .int .u8 0, .int .u8 0, .int .u8 0, .int .u8 0, .int .u8 0, .int .u8 0, .int .u8 0, .int .u8 0, .int .u8 0, .int .u8 0, .int .u8 0, .int .i64 0, .int .u8 0, .int .u8 0, .int .u8 0, .int .u8 0, .int .u8 0, .int .u8 0, .int .u8 0, .int .u8 0, .int .u8 0, .int .u8 0, .int .u8 0, .int .u8 0, .int .u8 0, .int .u8 0, .int .u8 0, .int .u8 0, .string ⟨#[]⟩] 28))
  have HA := hide (h.alloc hh (.cells #[.int .i64 0, .int .u8 0, .int .u8 0, .int .u8 0, .int .u8 0, .int .u8 0, .int .u8 0, .int .u8 0, .int .u8 0, .int .i64 0, .int .i64 0, .int .u8 0, .int .u8 0, .int .u8 0, .int .u8 0, .int .u8 0, .int .u8 0, .int .u8 0, .int .u8 0, .int .u8 0, .int .u8 0, .int .u8 0, .int .u8 0, .int .u8 0, .int .u8 0, .int .u8 0, .int .u8 0, .int .i64 0, .int .u8 0, .int .u8 0, .int .u8 0, .int .u8 0, .int .u8 0, .int .u8 0, .int .u8 0, .int .u8 0, .int .u8 0, .int .u8 0, .int .u8 0, .int .u8 0, .int .u8 0, .int .u8 0, .int .u8 0, .int .u8 0, .int .i64 0, .int .u8 0, .int .u8 0, .int .u8 0, .int .u8 0, .int .u8 0, .int .u8 0, .int .u8 0, .int .u8 0, .int .u8 0, .int .u8 0, .int .u8 0, .int .u8 0, .int .u8 0, .int .u8 0, .int .u8 0, .int .u8 0, .string ⟨#[]⟩] 28))
  have hs0 : (w.alloc (.cells #[.int .i64 0, .int .u8 0, .int .u8 0, .int .u8 0, .int .u8 0, .int .u8 0, .int .u8 0, .int .u8 0, .int .u8 0, .int .i64 0, .int .i64 0, .int .u8 0, .int .u8 0, .int .u8 0, .int .u8 0, .int .u8 0, .int .u8 0, .int .u8 0, .int .u8 0, .int .u8 0, .int .u8 0, .int .u8 0, .int .u8 0, .int .u8 0, .int .u8 0, .int .u8 0, .int .u8 0, .int .i64 0, .int .u8 0, .int .u8 0, .int .u8 0, .int .u8 0, .int .u8 0, .int .u8 0, .int .u8 0, .int .u8 0, .int .u8 0, .int .u8 0, .int .u8 0, .int .u8 0, .int .u8 0, .int .u8 0, .int .u8 0, .int .u8 0, .int .i64 0, .int .u8 0, .int .u8 0, .int .u8 0, .int .u8 0, .int .u8 0, .int .u8 0, .int .u8 0, .int .u8 0, .int .u8 0, .int .u8 0, .int .u8 0, .int .u8 0, .int .u8 0, .int .u8 0, .int .u8 0, .int .u8 0, .string ⟨#[]⟩] 28)).heap.size = w.heap.size + 1 := by simp
  have HS0 := hide hs0
  clear h hs0
  go_enter Tryz.func97, Tryz.ntmps97
  go_wp2_with ((with_reducible refine wpList_build_bare rfl (.tmp 15) rfl 3 rfl ?_); refine Hid.out ?_)
  refine hide ?_
  generalize hw0 : w.alloc (.cells #[.int .i64 0, .int .u8 0, .int .u8 0, .int .u8 0, .int .u8 0, .int .u8 0, .int .u8 0, .int .u8 0, .int .u8 0, .int .i64 0, .int .i64 0, .int .u8 0, .int .u8 0, .int .u8 0, .int .u8 0, .int .u8 0, .int .u8 0, .int .u8 0, .int .u8 0, .int .u8 0, .int .u8 0, .int .u8 0, .int .u8 0, .int .u8 0, .int .u8 0, .int .u8 0, .int .u8 0, .int .i64 0, .int .u8 0, .int .u8 0, .int .u8 0, .int .u8 0, .int .u8 0, .int .u8 0, .int .u8 0, .int .u8 0, .int .u8 0, .int .u8 0, .int .u8 0, .int .u8 0, .int .u8 0, .int .u8 0, .int .u8 0, .int .u8 0, .int .i64 0, .int .u8 0, .int .u8 0, .int .u8 0, .int .u8 0, .int .u8 0, .int .u8 0, .int .u8 0, .int .u8 0, .int .u8 0, .int .u8 0, .int .u8 0, .int .u8 0, .int .u8 0, .int .u8 0, .int .u8 0, .int .u8 0, .string ⟨#[]⟩] 28) = w0 at RES W0 HA HS0 ⊢
  clear hw0
  have NEW := hide (Blk.new w0 28 #[.int .i64 0, .int .u8 0, .int .u8 0, .int .u8 0, .int .u8 0, .int .u8 0, .int .u8 0, .int .u8 0, .int .u8 0, .int .i64 0, .int .i64 0, .int .u8 0, .int .u8 0, .int .u8 0, .int .u8 0, .int .u8 0, .int .u8 0, .int .u8 0, .int .u8 0, .int .u8 0, .int .u8 0, .int .u8 0, .int .u8 0, .int .u8 0, .int .u8 0, .int .u8 0, .int .u8 0, .int .i64 0, .int .u8 0, .int .u8 0, .int .u8 0, .int .u8 0, .int .u8 0, .int .u8 0, .int .u8 0, .int .u8 0, .int .u8 0, .int .u8 0, .int .u8 0, .int .u8 0, .int .u8 0, .int .u8 0, .int .u8 0, .int .u8 0, .int .i64 0, .int .u8 0, .int .u8 0, .int .u8 0, .int .u8 0, .int .u8 0, .int .u8 0, .int .u8 0, .int .u8 0, .int .u8 0, .int .u8 0, .int .u8 0, .int .u8 0, .int .u8 0, .int .u8 0, .int .u8 0, .int .u8 0, .string ⟨#[]⟩])
  go_wp2_with (refine wpList_store_mro rfl (.tmp 6) (.tmp 16) rfl w0.heap.size rfl (m := bareM 3) rfl (bare_W 3) NEW.out rfl ?_; intro w1 hb1 hg1; have M1 := hide hb1; have W01 : Hid (Below w0.heap.size w0 w1) := hide (((Below.refl _ _).alloc (Nat.le_refl _) _).grown hg1 (by simp) (by simp)); clear hb1 hg1; refine Hid.out ?_)
  refine hide ?_
  have RES1 := hide (RES.out.over W01.out)
  have W1 := hide (below_step W0.out W01.out (Nat.le_refl _))
  have HA1 := hide (HA.out.below (W01.out.mono (by have := HS0.out; omega)))
  have hq := M1.out.lt
  rw [HS0.out] at M1 hq ⊢
  clear NEW RES W0 HA W01
  go_wp2_with fail
  refine (refwhat_3 w1).mono ?_
  rintro e w2 ⟨rfl, hb2⟩
  have RES2 := hide (RES1.out.over hb2)
  have W2 := hide (below_step W1.out hb2 (Nat.le_refl _))
  have HA2 := hide (HA1.out.below (hb2.mono (by omega)))
  have M2 := hide (M1.out.over hb2)
  have hq2 : w.heap.size + 1 < w2.heap.size := Nat.lt_of_lt_of_le hq hb2.size
  clear hb2 RES1 W1 HA1 M1 hq
  go_wp2_with fail
  refine (dopen_any w2 lo hi A n c b HA2.out (by omega) hn).mono ?_
  rintro e w3 ⟨g, rfl, hgl, hd3, hb3⟩
  have S3 : Hid (RgS w w3 w2.heap.size (w.heap.size + 1) g (bareM 3) b false) := hide ⟨RES2.out.over hb3, M2.out.over hb3, hd3, below_step W2.out hb3 (Nat.le_refl _), bare_W 3, Nat.lt_succ_self _, hq2, hgl⟩
  generalize w2.heap.size = L at *
  clear hgl hd3 hb3 RES2 W2 HA2 M2 hq2
  go_wp2_with fail
  refine (dtake_any w3 L g b false S3.out.r ((8 : Nat) : Int) (by decide)).mono ?_
  rintro e w4 ⟨v4, rfl, ho4, hd4, hg4⟩
  obtain ⟨A4, c4, rfl, _, _⟩ := own_shape ho4
  have AT4 := hide (At.own ho4)
  have S4 := hide (S3.out.rd hd4 hg4)
  have hl4 := stepTaken_nat (bs := b) (n := ((8 : Nat) : Int)) (k := 8) (by decide)
  clear ho4 hd4 hg4 S3
  go_wp2_with fail
  refine (refof_any w4 _ _ A4 _ c4 _ AT4.out (Nat.le_refl _) (by omega)).mono ?_
  rintro e w5 ⟨rfl, hb5⟩
  have S5 := hide (S4.out.over hb5)
  clear hb5 S4 AT4 hl4
  have LD := hide (pad8_len (stepTaken b ((8 : Nat) : Int)))
  generalize hD : pad8 (stepTaken b ((8 : Nat) : Int)) = D at *
  generalize hB1 : stepRest b ((8 : Nat) : Int) = b1 at *
  generalize hF1 : (false || !stepB b ((8 : Nat) : Int)) = f1 at *
  have HD := hide hD
  have HB1 := hide hB1
  have HF1 := hide hF1
  clear hD hB1 hF1
  go_wp2_with (refine wpList_store_rd_in rfl (.tmp 52) (.tmp 51) rfl (w.heap.size + 1) rfl (d := D) rfl LD.out S5.out.mb S5.out.mw ?_; intro w6 hb6 hg6; have S6 := hide (S5.out.set (m' := { bareM 3 with rd := D }) hb6 ⟨LD.out, rfl, rfl, rfl⟩ hg6); clear hb6 hg6; refine Hid.out ?_)
  refine hide ?_
  clear S5
  go_wp2_with fail
  refine (dread_any w6 L g b1 f1 S6.out.r).mono ?_
  rintro e w7 ⟨s1, x1, b2, f2, rfl, hr1, hd7, hg7⟩
  have S7 := hide (S6.out.rd hd7 hg7)
  have HR1 := hide hr1
  have LX1 := hide hr1.1
  clear hd7 hg7 S6 hr1
  go_wp2_with (refine wpList_store_a_in 10 rfl (.tmp 60) (.tmp 59) rfl (w.heap.size + 1) rfl (s := s1) (bs := x1) rfl LX1.out S7.out.mb S7.out.mw (by decide) (mro_set_s S7.out.mb S7.out.mw s1 LX1.out) ?_; intro w8 hb8 hg8; have S8 := hide (S7.out.set (m' := { { bareM 3 with rd := D } with ss := s1, sb := x1 }) hb8 ⟨LD.out, LX1.out, rfl, rfl⟩ hg8); clear hb8 hg8; refine Hid.out ?_)
  refine hide ?_
  clear S7
  go_wp2_with fail
  refine (dread_any w8 L g b2 f2 S8.out.r).mono ?_
  rintro e w9 ⟨s2, x2, b3, f3, rfl, hr2, hd9, hg9⟩
  have S9 := hide (S8.out.rd hd9 hg9)
  have HR2 := hide hr2
  have LX2 := hide hr2.1
  clear hd9 hg9 S8 hr2
  go_wp2_with (refine wpList_store_a_in 27 rfl (.tmp 63) (.tmp 62) rfl (w.heap.size + 1) rfl (s := s2) (bs := x2) rfl LX2.out S9.out.mb S9.out.mw (by decide) (mro_set_g S9.out.mb S9.out.mw s2 LX2.out) ?_; intro w10 hb10 hg10; have S10 := hide (S9.out.set (m' := { { { bareM 3 with rd := D } with ss := s1, sb := x1 } with gs := s2, gb := x2 }) hb10 ⟨LD.out, LX1.out, LX2.out, rfl⟩ hg10); clear hb10 hg10; refine Hid.out ?_)
  refine hide ?_
  clear S9
  go_wp2_with fail
  refine (drest2_any w10 L g b3 f3 S10.out.r).mono ?_
  rintro e w11 ⟨v11, rfl, ho11, hd11, hg11⟩
  obtain ⟨A11, c11, rfl, _, _⟩ := own_shape ho11
  have AT11 := hide (At.own ho11)
  have S11 := hide (S10.out.rd hd11 hg11)
  clear ho11 hd11 hg11 S10
  go_wp2_with fail
  refine (refaof_any w11 _ _ A11 _ c11 b3 AT11.out (Nat.le_refl _)).mono ?_
  rintro e w12 ⟨rfl, hb12⟩
  have S12 := hide (S11.out.over hb12)
  have NEW := hide (Blk.new w12 26 #[.int .i64 0, .int .u8 0, .int .u8 0, .int .u8 0, .int .u8 0, .int .u8 0, .int .u8 0, .int .u8 0, .int .u8 0, .int .u8 0, .int .u8 0, .int .u8 0, .int .u8 0, .int .u8 0, .int .u8 0, .int .u8 0, .int .u8 0])
  have LX3 := hide (ofB_len16 b3)
  have HO := hide (fun ok r (hr : r = { { { { bareM 3 with rd := D } with ss := s1, sb := x1 } with gs := s2, gb := x2 } with fs := ofS b3, fb := ofB b3 }) (ho : ok = (decide (ofE b3 = 0) && !f3)) => by
    have q1 := HR1.out
    rw [← HB1.out, ← HF1.out] at q1
    rw [← HD.out] at hr
    exact dec_3 q1 HR2.out hr ho)
  generalize ofS b3 = s3 at *
  generalize ofB b3 = x3 at *
  generalize ofE b3 = e3 at *
  clear hb12 S11 AT11
  go_wp2_with (refine wpList_store_addr rfl (.tmp 13) (.tmp 69) rfl w12.heap.size rfl (s := s3) (bs := x3) rfl LX3.out NEW.out rfl ?_; intro w13 hb13 hg13; have M13 := hide hb13; have W123 : Hid (Below w12.heap.size w12 w13) := hide (((Below.refl _ _).alloc (Nat.le_refl _) _).grown hg13 (by simp) (by simp)); clear hb13 hg13; refine Hid.out ?_)
  refine hide ?_
  have S13 := hide (S12.out.over W123.out)
  generalize w12.heap.size = q13 at *
  clear NEW S12 W123
  go_wp2_with (first
    | (with_reducible refine wpList_load_addr rfl (.tmp 13) rfl q13 rfl M13.out LX3.out ?_)
    | (refine wpList_store_a_in 44 rfl (.tmp 72) (.tmp 71) rfl (w.heap.size + 1) rfl (s := s3) (bs := x3) rfl LX3.out S13.out.mb S13.out.mw (by decide) (mro_set_f S13.out.mb S13.out.mw s3 LX3.out) ?_; intro w14 hb14 hg14; have S14 := hide (S13.out.set (m' := { { { { bareM 3 with rd := D } with ss := s1, sb := x1 } with gs := s2, gb := x2 } with fs := s3, fb := x3 }) hb14 ⟨LD.out, LX1.out, LX2.out, LX3.out⟩ hg14); clear hb14 hg14; refine Hid.out ?_))
  refine hide ?_
  clear S13 M13
  generalize hr : ({ { { { bareM 3 with rd := D } with ss := s1, sb := x1 } with gs := s2, gb := x2 } with fs := s3, fb := x3 } : Mr) = r at S14
  have HR := hide hr
  clear hr
  by_cases e0 : e3 = 0
  case neg =>
    have e0b : (e3 != 0) = true := by simpa using e0
    have HF : Hid (decM 3 b = none) := hide (by
      cases hx : decM 3 b with
      | none => rfl
      | some m => exact absurd ((HO.out false r HR.out.symm (by rw [decide_eq_false e0]; rfl)).1 m hx).1 (by decide))
    clear e0 HO
    go_wp2_with (with_reducible refine wpList_load_mro rfl (.tmp 6) rfl (w.heap.size + 1) rfl S14.out.mb S14.out.mw ?_; refine Hid.out ?_)
    refine hide ?_
    go_wp2_with (refine wpList_store_mro rfl (.tmp 4) (.tmp 75) rfl w.heap.size rfl (m := r) rfl S14.out.mw S14.out.res (mro_size (bare_W 0)) ?_; intro w15 hb15 hg15; have M15 := hide hb15; have HG15 := hide hg15; clear hb15 hg15; refine Hid.out ?_)
    refine hide ?_
    go_wp2
    refine ret_mro2 (p := 4) (q := 5) (v := .bool false) rfl rfl rfl M15.out S14.out.mw rfl ?_
    exact ⟨r, false, rfl, S14.out.mw, (fun m h => by rw [HF.out] at h; cases h), (fun _ => rfl), S14.out.bel.grown HG15.out S14.out.bel.size (by simp)⟩
  subst e0
  have HO2 := hide (fun ok (ho : ok = (!f3 && decide (([] : List UInt8) = []))) => HO.out ok r HR.out.symm (by rw [ho]; simp))
  clear HO
  go_wp2_with fail
  obtain ⟨OK, hOK⟩ : ∃ OK, (!f3 && decide (([] : List UInt8) = [])) = OK := ⟨_, rfl⟩
  have HOK := hide hOK
  have RW := hide S14.out.mw
  have HFIN := hide (HO2.out OK hOK.symm)
  have hgq := S14.out.h2
  have hgl := S14.out.h3
  clear hOK HO2
  refine wp_region_held_drew (S := fun x => RgF w x L (w.heap.size + 1) g r ([] : List UInt8) f3) (by kernel_rfl) (RgF.of S14.out.drew) (fun hHeld => ?_)
  refine region_take (i := 0) (v := (.agg (mroC r))) rfl (by kernel_rfl) (by kernel_rfl) (by kernel_rfl) (fun _ _ _ h => h) (Or.inl ⟨by rfl, ?_⟩) (by assumption) ?_
  · (intro w' hSw; exact exec_load_mro (.tmp 6) rfl (w.heap.size + 1) rfl hSw.2.1 RW.out)
  simp only [Act.put, List.setIfInBounds_toArray, List.set_cons_zero, List.set_cons_succ]
  refine region_take (i := 1) (v := ?_) rfl (by kernel_rfl) (by kernel_rfl) (by kernel_rfl) (fun _ _ _ h => h) (Or.inl ⟨by rfl, ?_⟩) (by assumption) ?_
  rotate_left
  · (intro w' hSw; (try dsimp only at hSw); go_simp <;> with_reducible rfl)
  simp only [Act.put, List.setIfInBounds_toArray, List.set_cons_zero, List.set_cons_succ]
  refine region_call (i := 2) rfl (by kernel_rfl) (by rfl) (ddone_any _ L g ([] : List UInt8) f3 hHeld.2.2.1) (fun w => by kernel_rfl) ?_
  rintro e wd ⟨rfl, hbd⟩; rw [HOK.out]
  refine ⟨_, rfl, hHeld.over hbd, fun hHeld => ?_⟩
  simp only [Act.put, List.setIfInBounds_toArray, List.set_cons_zero, List.set_cons_succ]
  obtain ⟨old, hos, hob⟩ := hHeld.1
  have hbe := hHeld.2.2.2
  refine region_store (i := 3) rfl (by kernel_rfl) (by rfl) (exec_store_mro2 (.tmp 4) (.tmp 76) rfl w.heap.size rfl rfl RW.out hob hos) (hHeld.put RW.out hob (by omega) (by omega) (by omega)) (fun hHeld => ?_)
  simp only [Act.put, List.setIfInBounds_toArray, List.set_cons_zero, List.set_cons_succ]
  refine region_take (i := 4) (v := ?_) rfl (by kernel_rfl) (by kernel_rfl) (by kernel_rfl) (fun _ _ _ h => h) (Or.inl ⟨by rfl, ?_⟩) (by assumption) ?_
  rotate_left
  · (intro w' hSw; (try dsimp only at hSw); go_simp <;> with_reducible rfl)
  simp only [Act.put, List.setIfInBounds_toArray, List.set_cons_zero, List.set_cons_succ]
  refine wpAnyH_done (by kernel_rfl) ?_ _
  have MF := hide (hob.setRow (cs := mroC r))
  have BF := hide (hbe.grown (grown_setRow wd w.heap.size (mroC r)) hbe.size (fun k hk => by injection hk with hk; omega))
  generalize wd.setRow w.heap.size (mroC r) = we at *
  clear hHeld hob hbe
  go_wp2
  refine ret_mro2 (p := 4) (q := 5) (v := .bool OK) rfl rfl rfl MF.out RW.out rfl ?_
  exact ⟨r, OK, rfl, RW.out, HFIN.out.1, HFIN.out.2, BF.out⟩
end Go.Proofs.YtipgbmajhnkfbaaGreatDoor
