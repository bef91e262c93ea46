/-
  What Read of package attr does with attributes of distinct kinds, in whatever memory. The one condition: the table of kinds holds what its text lays.
-/
import Derived.Test.YtjhpikbilegfaaaDoorAtRead3
namespace Go.Proofs.YtjhpikbilegfaaaDoor
open Go.RowKit
open Go.Maps (Keyed IsMap Tidy)
set_option linter.unusedVariables false
set_option linter.unusedSimpArgs false

/-! ### Read -/
theorem built_rdg (m : Nat) : Tryd.prog.built 92 [(0, .agg (attC noneP)), (2, .map (some m))] = some (rdgC noneP m) := by kernel_rfl
theorem wpList_build_rdg {ops : Array Oper} {rest : List Oper} {o : Oper} {a : Act} {w : World} {Q : Exit → Act → World → Prop} (hw : Region.wanted o (yielded ops a.tmps) = true) (x y : Operand) (ho : o.op = .build 92 #[(0, x), (2, y)]) (m : Nat) (hx : a.eval x = .agg (attC noneP)) (hy : a.eval y = .map (some m))
    (hk : wpList Tryd.prog ops Q rest (a.put o.dst (.agg (rdgC noneP m))) w) : wpList Tryd.prog ops Q (o :: rest) a w := by
  refine wpList_of_exec hw ?_ hk
  unfold execOp
  simp only [ho, List.map_toArray, List.map_cons, List.map_nil, hx, hy, Sem.run_bind, run_build w _ _ _ (built_rdg m), Result.andThen_ok, Sem.run_pure]
theorem rdgC_size (m : Nat) {p : AtP} (h : p.ob.length = 16) : (rdgC p m).size = 26 := by simp [rdgC, rdgL, attL_len h]
theorem rdgC_one (m : Nat) (p : AtP) : (rdgC p m).all (·.oneCell') = true := by
  rw [Array.all_eq_true_iff_forall_mem]
  intro u hu
  simp only [rdgC, rdgL, List.mem_toArray, List.mem_append, List.mem_cons, List.not_mem_nil, or_false] at hu
  rcases hu with hu | rfl | rfl
  · exact attL_one p u hu
  · rfl
  · rfl
theorem wpList_store_newrdg {ops : Array Oper} {rest : List Oper} {o : Oper} {a : Act} {w : World} {Q : Exit → Act → World → Prop} (hgd : o.guard = none) (x y : Operand) (ho : o.op = .store 92 x y) (g : Nat) (hx : a.eval x = .pointer (some ⟨g, 0, none⟩)) (p : AtP) (m : Nat) (hy : a.eval y = .agg (rdgC p m)) (hl : p.ob.length = 16) {t : TypeId} {old : Array Value} (h : Blk w g t old) (hold : old.size = 26)
    (hk : ∀ w', Blk w' g t (rdgC p m) → w.grownBy w' (some g) → wpList Tryd.prog ops Q rest (a.put o.dst undef) w') : wpList Tryd.prog ops Q (o :: rest) a w :=
  wpList_store_row hgd 92 x y ho g (rdgC p m) hx hy t old h (by rw [rdgC_size m hl]; kernel_rfl) (by rw [rdgC_size m hl, hold]) (rdgC_one m p) (hk _ (h.setRow _) (grown_setRow _ _ _))
theorem ret_att3 {fn : Func} {R : Ending → World → Prop} {a : Act} {w : World} {c q s : Tmp} {g : Nat} {t : TypeId} {p : AtP} {v u : Value} (hf : fn.results = #[.cell c 48, .tmp q, .tmp s])
    (hp : a.tmps.getD c undef = .pointer (some ⟨g, 0, none⟩)) (hq : a.tmps.getD q undef = v) (hr : a.tmps.getD s undef = u) (h : Blk w g t (attC p)) (hl : p.ob.length = 16) (hd : a.defers = []) (hR : R (.returned (.tuple #[.agg (attC p), v, u])) w) :
    bodyPost Tryd.prog fn R .ret a w := by
  refine bodyPost_ret (v := .tuple #[.agg (attC p), v, u]) ?_ hd hR
  have hp' : a.tmps[c]?.getD undef = .pointer (some ⟨g, 0, none⟩) := by simpa using hp
  have hq' : a.tmps[q]?.getD undef = v := by simpa using hq
  have hr' : a.tmps[s]?.getD undef = u := by simpa using hr
  simp [results, hf, hp', hq', hr', asAddr, load_att (blk_range (l := attL p) h) hl]
/-- one step of Read -/
def NextPost (w : World) (r m lo : Nat) (ats : Ats) (out : Int) (e : Ending) (w' : World) : Prop :=
  e = .returned (.int .i64 out) ∧ ∃ p', p'.ats = ats ∧ AttrsAt w' lo w'.heap.size p' ∧ Blk w' r 92 (rdgC p' m) ∧ w.grownBy w' (some r)
def ReadPost (w : World) (ats : Ats) (out : Int) (e : Ending) (w' : World) : Prop :=
  ∃ p, e = .returned (.tuple #[.agg (attC p), .slice none 0 0, .int .i64 out]) ∧ p.ats = ats ∧ AttrsAt w' w.heap.size w'.heap.size p ∧ Below w.heap.size w w'
/-- no attribute of that kind has come -/
def Absent (D : DataW Unit) (K : Int) : Prop := Maps.has D (.int .i64 K) = false
theorem Absent.at_ {D : DataW Unit} {K : Int} (h : Absent D K) : D.atKey (.int .i64 K) (.lit (.int .i64 0)) = .lit (.int .i64 0) := Maps.atKey_of_not_has h _
theorem Absent.put {D : DataW Unit} {K L : Int} {d : DataW Unit} (h : Absent D K) (hne : K ≠ L) : Absent (D.put (.int .i64 L) d) K := by
  unfold Absent
  rw [Maps.has_put_other (by intro e; injection e with _ e; exact hne e)]
  exact h
structure RdS (w x : World) (r m lo2 cnt : Nat) (D : DataW Unit) (p : AtP) : Prop where
  rd : Blk x r 92 (rdgC p m)
  mp : Came x m cnt D
  at_ : AttrsAt x lo2 x.heap.size p
  res : Blk x w.heap.size 48 #[.int .i64 0, .slice none 0 0, .int .i64 0, .int .i64 0, .int .i64 0, .int .u8 0, .int .u8 0, .int .u8 0, .int .u8 0, .int .u8 0, .int .u8 0, .int .u8 0, .int .u8 0, .int .u8 0, .int .u8 0, .int .u8 0, .int .u8 0, .int .u8 0, .int .u8 0, .int .u8 0, .int .u8 0, .slice none 0 0, .slice none 0 0, .slice none 0 0]
  bl : Below w.heap.size w x
  hlo : lo2 ≤ x.heap.size
  hr : r < lo2
  hm : m < r
  hq : w.heap.size < m
section
variable {w x y : World} {r m lo2 cnt : Nat} {D : DataW Unit} {p : AtP}
theorem RdS.on (h : RdS w x r m lo2 cnt D p) (hb : Below x.heap.size x y) : RdS w y r m lo2 cnt D p :=
  ⟨h.rd.over hb, h.mp.kept (grown_of_below hb none) (by simp), h.at_.over hb, h.res.over hb, below_step h.bl hb (Nat.le_refl _), Nat.le_trans h.hlo hb.size, h.hr, h.hm, h.hq⟩
theorem RdS.fresh (h : RdS w x r m lo2 cnt D p) {g : Nat} {ob : Obj} (hg : (x.alloc ob).grownBy y (some g)) (hn : x.heap.size ≤ g) : RdS w y r m lo2 cnt D p :=
  h.on (((Below.refl _ _).alloc (Nat.le_refl _) _).grown hg (by simp) (fun k hk => by injection hk; omega))
theorem RdS.c25 (h : RdS w x r m lo2 cnt D p) : x.cell? ⟨r, 25, none⟩ = some (.map (some m)) := rdg_25 h.rd h.at_.ob
theorem RdS.c24 (h : RdS w x r m lo2 cnt D p) : x.cell? ⟨r, 24, none⟩ = some (.slice none 0 0) := rdg_24 h.rd h.at_.ob
end

set_option maxRecDepth 20000 in
set_option maxHeartbeats 6000000 in
theorem readat_any (w : World) (lo hi : Nat) (A : Option Addr) (n c : Nat) (l : List RawP) (h : RawsAt w lo hi A n l) (hh : hi ≤ w.heap.size) (hn : n ≤ 64) (st : Nat → Ats × Int) (h0 : st 0 = (noneAt, 0)) (hdis : l.Pairwise (fun x y => x.k ≠ y.k)) (hwf : ∀ x ∈ l, (Lit.int .i64 x.k).wf = true ∧ x.k ≠ 14)
    (HN : ∀ (j : Nat) (x : RawP), l[j]? = some x → ∀ (wr : World) (r m lo2 cnt : Nat) (D : DataW Unit) (p : AtP), Below w.heap.size w wr → Blk wr r 92 (rdgC p m) → Came wr m cnt D → Absent D x.k → AttrsAt wr lo2 wr.heap.size p → lo2 ≤ wr.heap.size → r < lo2 → p.ats = (st j).1 →
      ∃ out, max (st j).2 out = (st (j + 1)).2 ∧ Calls Tryd.prog 43 #[.pointer (some ⟨r, 0, none⟩), .agg (rawC x)] wr (NextPost wr r m lo2 (st (j + 1)).1 out)) :
    Calls Tryd.prog 22 #[.slice A n c] w (ReadPost w (st n).1 (st n).2) := by
  have H := hide h
  have HXL := hide h.len
  have HDIS := hide hdis
  have HWF := hide hwf
  have HNN := hide HN
  have H00 := hide h0
  have hmm := @run_makeMap Tryd.prog
  have RES : Hid (Blk (w.alloc (.cells #[.int .i64 0, .slice none 0 0, .int .i64 0, .int .i64 0, .int .i64 0, .int .u8 0, .int .u8 0, .int .u8 0, .int .u8 0, .int .u8 0, .int .u8 0, .int .u8 0, .int .u8 0, .int .u8 0, .int .u8 0, .int .u8 0, .int .u8 0, .int .u8 0, .int .u8 0, .int .u8 0, .int .u8 0, .slice none 0 0, .slice none 0 0, .slice none 0 0] 48)) w.heap.size 48 #[.int .i64 0, .slice none 0 0, .int .i64 0, .int .i64 0, .int .i64 0, .int .u8 0, .int .u8 0, .int .u8 0, .int .u8 0, .int .u8 0, .int .u8 0, .int .u8 0, .int .u8 0, .int .u8 0, .int .u8 0, .int .u8 0, .int .u8 0, .int .u8 0, .int .u8 0, .int .u8 0, .int .u8 0, .slice none 0 0, .slice none 0 0, .slice none 0 0]) := hide (Blk.new w _ _)
  have W0 : Hid (Below w.heap.size w (w.alloc (.cells #[.int .i64 0, .slice none 0 0, .int .i64 0, .int .i64 0, .int .i64 0, .int .u8 0, .int .u8 0, .int .u8 0, .int .u8 0, .int .u8 0, .int .u8 0, .int .u8 0, .int .u8 0, .int .u8 0, .int .u8 0, .int .u8 0, .int .u8 0, .int .u8 0, .int .u8 0, .int .u8 0, .int .u8 0, .slice none 0 0, .slice none 0 0, .slice none 0 0] 48))) := hide ((Below.refl _ _).alloc (Nat.le_refl _) _)
  have hz0 : (w.alloc (.cells #[.int .i64 0, .slice none 0 0, .int .i64 0, .int .i64 0, .int .i64 0, .int .u8 0, .int .u8 0, .int .u8 0, .int .u8 0, .int .u8 0, .int .u8 0, .int .u8 0, .int .u8 0, .int .u8 0, .int .u8 0, .int .u8 0, .int .u8 0, .int .u8 0, .int .u8 0, .int .u8 0, .int .u8 0, .slice none 0 0, .slice none 0 0, .slice none 0 0] 48)).heap.size = w.heap.size + 1 := by simp
  clear h hdis hwf HN h0
  go_enter Tryd.func22, Tryd.ntmps22
  go_wp2_with fail
  generalize hw0 : w.alloc (.cells #[.int .i64 0, .slice none 0 0, .int .i64 0, .int .i64 0, .int .i64 0, .int .u8 0, .int .u8 0, .int .u8 0, .int .u8 0, .int .u8 0, .int .u8 0, .int .u8 0, .int .u8 0, .int .u8 0, .int .u8 0, .int .u8 0, .int .u8 0, .int .u8 0, .int .u8 0, .int .u8 0, .int .u8 0, .slice none 0 0, .slice none 0 0, .slice none 0 0] 48) = w0 at *
  clear hw0
  refine (none_any w0).mono ?_
  rintro e w1 ⟨rfl, hb1⟩
  have RES1 := hide (RES.out.over hb1)
  have W1 := hide (below_step W0.out hb1 (by omega))
  have hz1 : w.heap.size + 1 ≤ w1.heap.size := by have := hb1.size; omega
  have NEWR : Hid (Blk ((w1.alloc (.map #[] 0)).alloc (.cells #[.int .i64 0, .slice none 0 0, .int .i64 0, .int .i64 0, .int .i64 0, .int .u8 0, .int .u8 0, .int .u8 0, .int .u8 0, .int .u8 0, .int .u8 0, .int .u8 0, .int .u8 0, .int .u8 0, .int .u8 0, .int .u8 0, .int .u8 0, .int .u8 0, .int .u8 0, .int .u8 0, .int .u8 0, .slice none 0 0, .slice none 0 0, .slice none 0 0, .slice none 0 0, .map none] 92)) (w1.heap.size + 1) 92 #[.int .i64 0, .slice none 0 0, .int .i64 0, .int .i64 0, .int .i64 0, .int .u8 0, .int .u8 0, .int .u8 0, .int .u8 0, .int .u8 0, .int .u8 0, .int .u8 0, .int .u8 0, .int .u8 0, .int .u8 0, .int .u8 0, .int .u8 0, .int .u8 0, .int .u8 0, .int .u8 0, .int .u8 0, .slice none 0 0, .slice none 0 0, .slice none 0 0, .slice none 0 0, .map none]) := hide (by have h := Blk.new (w1.alloc (.map #[] 0)) 92 #[.int .i64 0, .slice none 0 0, .int .i64 0, .int .i64 0, .int .i64 0, .int .u8 0, .int .u8 0, .int .u8 0, .int .u8 0, .int .u8 0, .int .u8 0, .int .u8 0, .int .u8 0, .int .u8 0, .int .u8 0, .int .u8 0, .int .u8 0, .int .u8 0, .int .u8 0, .int .u8 0, .int .u8 0, .slice none 0 0, .slice none 0 0, .slice none 0 0, .slice none 0 0, .map none]; rw [show (w1.alloc (.map #[] 0)).heap.size = w1.heap.size + 1 by simp] at h; exact h)
  clear hb1 RES W0 hz0
  go_wp2_with (first
    | (with_reducible refine wpList_build_rdg rfl (.tmp 9) (.tmp 10) rfl w1.heap.size rfl rfl ?_)
    | (refine wpList_store_newrdg rfl (.tmp 5) (.tmp 11) rfl (w1.heap.size + 1) rfl noneP w1.heap.size rfl rfl NEWR.out rfl ?_; intro w2 hb2 hg2; have K2 := hide hb2; have G2 := hide hg2; clear hb2 hg2; refine Hid.out ?_))
  refine hide ?_
  have hz2 : w1.heap.size + 2 ≤ w2.heap.size := by have h := G2.out.size; simp at h; omega
  have S2 : Hid (RdS w w2 (w1.heap.size + 1) w1.heap.size (w1.heap.size + 2) 0 (.map []) noneP) := hide ⟨K2.out, ((World.ownsMap_made w1 Tryd.prog 3 (plainElem Tryd.prog 3)).alloc _).kept G2.out (by intro e; injection e; omega), none_at _ _ _, ((RES1.out.alloc _).alloc _).grown G2.out (by intro e; injection e; omega), ((W1.out.alloc (by omega) _).alloc (by simp; omega) _).grown G2.out (by simp; omega) (fun k hk => by injection hk; omega), hz2, by omega, by omega, by omega⟩
  obtain ⟨r, hr⟩ : ∃ r, w1.heap.size + 1 = r := ⟨_, rfl⟩
  obtain ⟨m, hm⟩ : ∃ m, w1.heap.size = m := ⟨_, rfl⟩
  obtain ⟨lo2, hl2⟩ : ∃ lo2, w1.heap.size + 2 = lo2 := ⟨_, rfl⟩
  rw [hr, hl2, hm] at S2
  rw [hr]
  clear K2 G2 NEWR RES1 W1 hz2 hr hm hl2 hmm
  go_wp2_with fail
  go_loopw [6, 14] (fun v i wr => ∃ (k cnt : Nat) (D : DataW Unit) (p : AtP), k ≤ n ∧ v = .int .i64 (st k).2 ∧ i = .int .i64 k ∧ cnt ≤ k ∧ (∀ K, (∀ x ∈ l.take k, x.k ≠ K) → Absent D K) ∧ p.ats = (st k).1 ∧ RdS w wr r m lo2 cnt D p) (fun _ i _ => n - (intOf i).toNat)
  case atStart => exact ⟨0, 0, .map [], noneP, Nat.zero_le _, by rw [H00.out], rfl, Nat.le_refl _, (fun K _ => rfl), by rw [H00.out, none_ats], S2.out⟩
  case round =>
    obtain ⟨k, cnt, D, p, hk, rfl, rfl, hcnt, habs, hats, hst⟩ := hrel
    have HAB := hide habs
    have HATS := hide hats
    have ST := hide hst
    clear habs hats hst
    by_cases hlt : k < n
    · have Yr := hide (H.out.below (ST.out.bl.mono hh))
      obtain ⟨b, o, x, rfl, hb1, hb2, hx, hat, hv, hnc⟩ := Yr.out.at_ hlt
      have HX := hide hx
      have HAT := hide hat
      have HWX := HWF.out x (List.mem_of_getElem? hx)
      have NEW := hide (Blk.new wr 55 #[.int .i64 0, .int .i64 0, .slice none 0 0])
      have HABX : Hid (Absent D x.k) := hide (HAB.out x.k (fun y hy => by
        have h1 := List.pairwise_append.1 (by have h2 := HDIS.out; rw [← List.take_append_drop k l] at h2; exact h2)
        exact h1.2.2 y hy x (List.mem_of_getElem? (by rw [List.getElem?_drop, Nat.add_zero]; exact HX.out))))
      clear hx hat hv hnc
      go_wp2_with (first
        | ((with_reducible refine wpList_load_raw_at rfl (.tmp 16) rfl (b := b) (i := o + k * 3) rfl HAT.out ?_))
        | (refine wpList_store_raw rfl (.tmp 8) (.tmp 17) rfl wr.heap.size rfl x rfl NEW.out rfl ?_; intro w3 hb3 hg3; have B3 := hide hb3; have S3 := hide (ST.out.fresh hg3 (Nat.le_refl _)); clear hb3 hg3; refine Hid.out ?_))
      refine hide ?_
      clear NEW Yr HAT
      obtain ⟨out, hmax, hcall⟩ := HNN.out k x HX.out w3 r m lo2 cnt D p S3.out.bl S3.out.rd S3.out.mp HABX.out S3.out.at_ S3.out.hlo S3.out.hr HATS.out
      have HC := hide hcall
      have HMX := hide hmax
      have hB3 : r < wr.heap.size := Nat.lt_of_lt_of_le ST.out.hr ST.out.hlo
      clear hmax hcall ST
      generalize wr.heap.size = q8 at *
      go_wp2_with (with_reducible refine wpList_load_raw rfl (.tmp 8) rfl q8 rfl B3.out ?_)
      refine HC.out.mono ?_
      rintro e w4 ⟨rfl, p', hp', hat', hrd', hg'⟩
      have S4 : Hid (RdS w w4 r m lo2 cnt D p') := hide ⟨hrd', S3.out.mp.kept hg' (by intro e; injection e; have := S3.out.hm; omega), hat', S3.out.res.grown hg' (by intro e; injection e; have := S3.out.hm; have := S3.out.hq; omega), S3.out.bl.grown hg' S3.out.bl.size (fun q hq => by injection hq; have := S3.out.hm; have := S3.out.hq; omega), Nat.le_trans S3.out.hlo hg'.size, S3.out.hr, S3.out.hm, S3.out.hq⟩
      have B4 : Hid (Blk w4 q8 55 (rawC x)) := hide (B3.out.grown hg' (by intro e; injection e; omega))
      have HP := hide hp'
      have k25 := S4.out.c25
      have k1 : w4.cell? ⟨q8, 1, none⟩ = some (.int .i64 x.k) := B4.out.cell 1
      clear hp' hat' hrd' hg' S3
      have HK9 := hide (key9 HWX.1)
      have HAT9 := hide HABX.out.at_
      go_wp2_with (first
        | (at_lookup; refine wpList_lookup_own_int _ rfl (.tmp 23) (.tmp 25) 90 rfl 3 3 .i64 keyedI9 Tryd.underlying90 Tryd.underlying3 (zeroI9 _) m cnt D rfl S4.out.mp _ (.int .i64 x.k) rfl HK9.out ?_; intro c0 hat9 hwc; (obtain rfl : (0 : Int) = c0 := (Lit.int.inj (DataW.lit.inj (HAT9.out.symm.trans hat9))).2); clear hat9 hwc)
        | (at_mapUpdate; refine wpList_mapUpdate_own _ rfl (.tmp 23) (.tmp 25) (.tmp 27) 90 rfl 3 3 keyedI9 Tryd.underlying90 (plainElem Tryd.prog 3) m cnt D rfl S4.out.mp (by unfold maxLen; omega) _ _ (.int .i64 x.k) rfl rfl HK9.out (.lit (.int .i64 1)) [] (plainElem_int Tryd.underlying3 (by decide)) ?_; intro w5 hown5 hg5; have M5 := hide hown5; have G5 := hide hg5; clear hown5 hg5))
      have hmr := S4.out.hm
      have hrl := S4.out.hr
      have hqm := S4.out.hq
      have S5 : Hid (RdS w w5 r m lo2 (cnt + 1) (D.put (.int .i64 x.k) (.lit (.int .i64 1))) p') := hide ⟨S4.out.rd.grown G5.out (by intro e; injection e; omega), M5.out, (S4.out.at_.grown G5.out (Nat.le_refl _) (fun q hq => by injection hq; omega)).more (Nat.le_refl _) G5.out.size, S4.out.res.grown G5.out (by intro e; injection e; omega), S4.out.bl.grown G5.out S4.out.bl.size (fun q hq => by injection hq; omega), Nat.le_trans S4.out.hlo G5.out.size, hrl, hmr, hqm⟩
      have HAB5 : Hid (∀ K, (∀ y ∈ l.take (k + 1), y.k ≠ K) → Absent (D.put (.int .i64 x.k) (.lit (.int .i64 1))) K) := hide (fun K hK => by
        have hK1 : ∀ y ∈ l.take k, y.k ≠ K := fun y hy => hK y (by rw [List.take_add_one]; exact List.mem_append_left _ hy)
        have hK2 : x.k ≠ K := hK x (by rw [List.take_add_one, HX.out]; simp)
        exact (HAB.out K hK1).put (fun e => hK2 e.symm))
      clear S4 M5 G5 B4 k25 k1
      go_roundw
      case rel => exact ⟨k + 1, cnt + 1, _, p', by omega, by rw [HMX.out], by go_num, by omega, HAB5.out, HP.out, S5.out⟩
      case measure => simp [intOf]; omega
    · obtain rfl : k = n := by omega
      have A14 : Hid (D.atKey (.int .i64 14) (.lit (.int .i64 0)) = .lit (.int .i64 0)) := hide (HAB.out 14 (fun y hy => (HWF.out y (List.mem_of_mem_take hy)).2)).at_
      have HK9 : Hid (keyOf Tryd.prog 3 (.int .i64 14) = some (.int .i64 14)) := hide (key9 (by decide))
      have k25 := ST.out.c25
      go_wp2_with (at_lookup; refine wpList_lookup_own_int _ rfl (.tmp 30) _ 90 rfl 3 3 .i64 keyedI9 Tryd.underlying90 Tryd.underlying3 (zeroI9 _) m cnt D rfl ST.out.mp _ (.int .i64 14) rfl HK9.out ?_; intro c0 hat9 hwc; (obtain rfl : (0 : Int) = c0 := (Lit.int.inj (DataW.lit.inj (A14.out.symm.trans hat9))).2); clear hat9 hwc)
      clear k25
      refine wp_region_held_drew (S := fun x => Blk x r 92 (rdgC p m) ∧ AttrsAt x lo2 wr.heap.size p ∧ Below w.heap.size w x) (by kernel_rfl) ⟨ST.out.rd.drew, ST.out.at_.drew, below_drew ST.out.bl⟩ (fun hHeld => ?_)
      have HOB := hHeld.2.1.ob
      have hmr := ST.out.hm
      have hrl := ST.out.hr
      have hqm := ST.out.hq
      refine region_take (i := 0) (v := ?_) rfl (by kernel_rfl) (by kernel_rfl) (by kernel_rfl) (fun _ _ _ h => h) (Or.inl ⟨by rfl, ?_⟩) (by assumption) ?_
      rotate_left
      · (intro w' hSw; (try dsimp only at hSw); go_simp <;> with_reducible rfl)
      simp only [Act.put, List.setIfInBounds_toArray, List.set_cons_zero, List.set_cons_succ]
      refine region_take (i := 1) (v := (.agg (attC p))) rfl (by kernel_rfl) (by kernel_rfl) (by kernel_rfl) (fun _ _ _ h => h) (Or.inl ⟨by rfl, ?_⟩) (by assumption) ?_
      · (intro w' hSw; exact exec_load_att (.tmp 47) rfl r 0 rfl (rdg_att hSw.1) HOB)
      simp only [Act.put, List.setIfInBounds_toArray, List.set_cons_zero, List.set_cons_succ]
      refine region_take (i := 2) (v := ?_) rfl (by kernel_rfl) (by kernel_rfl) (by kernel_rfl) (fun _ _ _ h => h) (Or.inl ⟨by rfl, ?_⟩) (by assumption) ?_
      rotate_left
      · (intro w' hSw; (try dsimp only at hSw); go_simp <;> with_reducible rfl)
      simp only [Act.put, List.setIfInBounds_toArray, List.set_cons_zero, List.set_cons_succ]
      refine region_take (i := 3) (v := ?_) rfl (by kernel_rfl) (by kernel_rfl) (by kernel_rfl) (fun _ _ _ h => h) (Or.inl ⟨by rfl, ?_⟩) (by assumption) ?_
      rotate_left
      · (intro w' hSw; have kc := (rdg_24 hSw.1 HOB); go_simp <;> with_reducible rfl)
      simp only [Act.put, List.setIfInBounds_toArray, List.set_cons_zero, List.set_cons_succ]
      refine region_take (i := 4) (v := ?_) rfl (by kernel_rfl) (by kernel_rfl) (by kernel_rfl) (fun _ _ _ h => h) (Or.inl ⟨by rfl, ?_⟩) (by assumption) ?_
      rotate_left
      · (intro w' hSw; (try dsimp only at hSw); go_simp <;> with_reducible rfl)
      simp only [Act.put, List.setIfInBounds_toArray, List.set_cons_zero, List.set_cons_succ]
      have HS5 : Blk (wr.drew.setCells w.heap.size 0 (attL p)) r 92 (rdgC p m) ∧ AttrsAt (wr.drew.setCells w.heap.size 0 (attL p)) lo2 wr.heap.size p ∧ Below w.heap.size w (wr.drew.setCells w.heap.size 0 (attL p)) := by
        have hg := grown_setCells (g := w.heap.size) (attL p) 0 wr.drew wr.drew (grown_refl _ _)
        exact ⟨hHeld.1.grown hg (by intro e; injection e; omega), hHeld.2.1.grown hg (Nat.le_refl _) (fun q hq => by injection hq; omega), hHeld.2.2.grown hg (ST.out.bl.size) (fun q hq => by injection hq; omega)⟩
      refine region_store (i := 5) rfl (by kernel_rfl) (by rfl) (exec_store_att (.tmp 2) (.tmp 48) rfl w.heap.size 0 rfl rfl HOB (blk_there24 ST.out.res.drew)) HS5 (fun hHeld => ?_)
      simp only [Act.put, List.setIfInBounds_toArray, List.set_cons_zero, List.set_cons_succ]
      refine region_take (i := 6) (v := ?_) rfl (by kernel_rfl) (by kernel_rfl) (by kernel_rfl) (fun _ _ _ h => h) (Or.inl ⟨by rfl, ?_⟩) (by assumption) ?_
      rotate_left
      · (intro w' hSw; (try dsimp only at hSw); go_simp <;> with_reducible rfl)
      simp only [Act.put, List.setIfInBounds_toArray, List.set_cons_zero, List.set_cons_succ]
      refine region_take (i := 7) (v := ?_) rfl (by kernel_rfl) (by kernel_rfl) (by kernel_rfl) (fun _ _ _ h => h) (Or.inl ⟨by rfl, ?_⟩) (by assumption) ?_
      rotate_left
      · (intro w' hSw; (try dsimp only at hSw); go_simp <;> with_reducible rfl)
      simp only [Act.put, List.setIfInBounds_toArray, List.set_cons_zero, List.set_cons_succ]
      have K5 := hide (blk_stored24 ST.out.res.drew HOB)
      have hz5 : wr.heap.size ≤ (wr.drew.setCells w.heap.size 0 (attL p)).heap.size := (grown_setCells (g := w.heap.size) (attL p) 0 wr.drew wr.drew (grown_refl _ _)).size
      have HH := hide hHeld
      clear hHeld HS5
      generalize wr.drew.setCells w.heap.size 0 (attL p) = w5 at *
      refine wpAnyH_done (by kernel_rfl) ?_ _
      go_wp2
      refine ret_att3 (c := 2) (q := 3) (s := 4) rfl rfl rfl rfl K5.out HOB rfl ?_
      exact ⟨p, rfl, HATS.out, HH.out.2.1.more (by omega) hz5, HH.out.2.2⟩
end Go.Proofs.YtjhpikbilegfaaaDoor
