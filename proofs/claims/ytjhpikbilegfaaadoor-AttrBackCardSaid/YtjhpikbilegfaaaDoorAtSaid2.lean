/-
  What a value says where it says a row of addresses, in whatever memory. No condition.
-/
import Derived.Test.YtjhpikbilegfaaaDoorAtSaid1
namespace Go.Proofs.YtjhpikbilegfaaaDoor
open Go.RowKit
set_option linter.unusedVariables false
set_option linter.unusedSimpArgs false

theorem ad_info : (Tryd.prog.info? 43).map (fun i => (i.zero.map (·.cells.size), i.size, i.bytes)) = some (some 17, 17, 24) := by kernel_rfl
theorem ad_parts : ∃ (i : TypeInfo) (z : Value), Tryd.prog.info? 43 = some i ∧ i.zero = some z ∧ i.size = 17 ∧ i.bytes = 24 ∧ z.cells.size = 17 := by
  have h := ad_info
  cases hq : Tryd.prog.info? 43 with
  | none => rw [hq] at h; cases h
  | some i =>
    rw [hq] at h
    simp only [Option.map_some, Option.some.injEq, Prod.mk.injEq] at h
    cases hz : i.zero with
    | none => rw [hz] at h; simp at h
    | some z =>
      rw [hz] at h
      simp at h
      exact ⟨i, z, rfl, hz, h.2.1, h.2.2, h.1⟩
theorem zero_ad : ∃ z : Value, z.cells.size = 17 ∧ ∀ w, (zeroValue 43).run Tryd.prog w = .ok z w := ⟨_, by kernel_rfl, Tryd.zeroValue43⟩
theorem exec_build_ad1 {o : Oper} {a : Act} (w : World) (x : Operand) (ho : o.op = .buildSlice 44 1 #[(0, x)]) {s : Int} {b : List UInt8} (hl : b.length = 16) (ex : a.eval x = .agg (addrC s b)) :
    (execOp a.eval o).run Tryd.prog w = .ok (.value (.slice (some ⟨w.heap.size, 0, none⟩) 1 1)) (w.alloc (.cells (addrC s b) 43)) := by
  obtain ⟨z, hz, hz2⟩ := zero_ad
  have h := run_build_one (P := Tryd.prog) w 44 43 (addrC s b) z Tryd.underlying44 (fun w => Tryd.sizeOf43 w) hz2 hz (addrC_size s hl) (by decide) (by decide)
  unfold execOp
  simp only [ho, List.map_toArray, List.map_cons, List.map_nil, ex, Sem.run_bind, h, Result.andThen_ok, Sem.run_pure]
theorem adL_one (x : Int × List UInt8) : ∀ u ∈ adL x, u.oneCell' = true := fun u hu => by
  simp only [adL, List.mem_cons] at hu
  rcases hu with rfl | hu
  · rfl
  · exact bvs_one _ u hu
theorem run_append_ads (w : World) (base : Nat) (ty : TypeId) (v : Value) (n : Nat) (xs : List (Int × List UInt8)) (hown : w.ownsRow base 43 17 v n (flatG adL xs)) (lo hi' : Nat) (A : Option Addr) (m c : Nat) (news : List (Int × List UInt8)) (hs : ∀ x ∈ news, x.2.length = 16) (hr : AtG adL w lo hi' A m news)
    (hb : n + m ≤ 1000000000000) (hbase : base ≤ w.heap.size) :
    ∃ v' w', (Builtin.append_ #[44, 44] ty #[v, .slice A m c]).run Tryd.prog w = .ok v' w' ∧ w'.ownsRow base 43 17 v' (n + m) (flatG adL (xs ++ news)) ∧ w.grownBy w' v.ownBlock ∧ (v'.ownBlock = v.ownBlock ∨ v'.ownBlock = some w.heap.size) := by
  obtain ⟨i, z, hi, hz, h1, h2, h3⟩ := ad_parts
  exact run_append_G (P := Tryd.prog) w base 44 ty 43 i z 24 Tryd.underlying44 hi hz h1 h2 h3 (by decide) v n xs hown lo hi' A m c news hr (fun y hy => adL_len (hs y hy)) (fun y hy => adL_one y) (by omega) (by unfold maxLen; omega) hbase
theorem grown_row9 {a b c : World} {g : Nat} {row : Option Nat} (h : a.grownBy b (some g)) (k : b.grownBy c row) (hr : ∀ q, row = some q → a.heap.size ≤ q) : a.grownBy c (some g) :=
  ⟨k.os.trans h.os, k.tape.trans h.tape, k.output.trans h.output, Nat.le_trans h.size k.size, fun i hi hne => (k.block i (Nat.lt_of_lt_of_le hi h.size) (fun e => by have := hr _ e.symm; omega)).trans (h.block i hi hne)⟩
theorem clB_front {l : List (Int × List UInt8)} {k : Nat} {x : Int × List UInt8} (h : l[k]? = some x) : clB (l.drop k) = bytesA x.1 x.2 ++ clB (l.drop (k + 1)) := by
  obtain ⟨h1, h2⟩ := List.getElem?_eq_some_iff.1 h
  rw [List.drop_eq_getElem_cons h1, h2]
  rfl
theorem step4 {a r : List UInt8} (h : a.length = 4) : stepTaken (a ++ r) 4 = a ∧ stepRest (a ++ r) 4 = r ∧ stepB (a ++ r) 4 = true := by
  have hs : stepB (a ++ r) 4 = true := by unfold stepB; rw [decide_eq_true_eq, List.length_append, h]; omega
  refine ⟨?_, ?_, hs⟩
  · unfold stepTaken
    rw [if_pos hs]
    show (a ++ r).take 4 = a
    rw [← h, List.take_left']
    rfl
  · unfold stepRest
    rw [if_pos hs]
    show (a ++ r).drop 4 = r
    rw [← h, List.drop_left']
    rfl
set_option maxRecDepth 20000 in
set_option maxHeartbeats 3000000 in
theorem listD_any (w : World) (lo g : Nat) (l : List (Int × List UInt8)) (h : Rd w lo g (clB l) false) (hsz : ∀ x ∈ l, x.2.length = 16) (hf : l.all (fun x => four x.1 x.2) = true) (hl : l.length ≤ 32) :
    Calls Tryd.prog 104 #[.pointer (some ⟨g, 0, none⟩), .int .i64 32, .func (.func 103) #[] #[]] w fun e w' => ∃ A c, e = .returned (.slice A l.length c) ∧ w'.ownsRow w.heap.size 43 17 (.slice A l.length c) l.length (flatG adL l) ∧ w.grownBy w' (some g) := by
  have hgl := h.lt
  have H := hide h
  have HF := hide (List.all_eq_true.1 hf)
  have HSZ := hide hsz
  have hlen : ∀ k, (clB (l.drop k)).length = 4 * (l.length - k) := fun k => by
    rw [clB_len (fun x hx => hsz x (List.mem_of_mem_drop hx)) (List.all_eq_true.2 (fun x hx => List.all_eq_true.1 hf x (List.mem_of_mem_drop hx))), List.length_drop]
  have HLEN := hide hlen
  clear h hf hsz hlen
  obtain ⟨n, hn⟩ : ∃ n, l.length = n := ⟨_, rfl⟩
  rw [hn] at HLEN hl ⊢
  have HN := hide hn
  clear hn
  go_enter Tryd.func104, Tryd.ntmps104
  go_wp2_with fail
  go_loopg [7] n (fun gg v wr => ∃ (k c : Nat) (A : Option Addr), v = .slice A k c ∧ k ≤ n ∧ n - k ≤ gg ∧ wr.ownsRow w.heap.size 43 17 (.slice A k c) k (flatG adL (l.take k)) ∧ Rd wr lo g (clB (l.drop k)) false ∧ w.grownBy wr (some g))
  case atStart => exact ⟨0, 0, none, rfl, Nat.zero_le _, Nat.le_refl _, World.ownsRow_nil _ _ _ _, H.out, grown_refl _ _⟩
  case round =>
    obtain ⟨k, c, A, rfl, hk, hgg, hown, hrd, hgr⟩ := hrel
    have HO := hide hown
    have HR := hide hrd
    have HG := hide hgr
    obtain ⟨Ar, nr, cr, k0⟩ := hrd.open0
    clear hown hrd hgr k0
    have hlk := HLEN.out k
    have hwz := HG.out.size
    by_cases hlt : k < n
    · have h0 : (0 : Int) < (((clB (l.drop k)).length : Nat) : Int) := by omega
      have h32 : ((k : Nat) : Int) < 32 := by omega
      obtain ⟨x, hx⟩ : ∃ x, l[k]? = some x := ⟨_, List.getElem?_eq_getElem (by rw [HN.out]; exact hlt)⟩
      have hmem := List.mem_of_getElem? hx
      have hx16 := HSZ.out x hmem
      obtain ⟨h44, hx4, hxs, hxb⟩ := four_len hx16 (HF.out x hmem)
      obtain ⟨s1, s2, s3⟩ := step4 (r := clB (l.drop (k + 1))) hx4
      rw [← clB_front hx] at s1 s2 s3
      have S1 := hide s1
      have S2 := hide s2
      have S3 := hide s3
      have XS := hide hxs
      have XB := hide hxb
      have HX := hide hx
      obtain ⟨LN, hLN⟩ : ∃ LN, (clB (l.drop k)).length = LN := ⟨_, rfl⟩
      rw [hLN] at h0
      have HLN := hide hLN
      clear s1 s2 s3 hxs hxb hx4 hx hlk hLN h44
      go_wp2_with (go_at_call 25; refine (Rd.left HR.out).mono ?_; rw [HLN.out]; rintro x wq ⟨rfl, rfl⟩)
      refine (four_any wr lo g (clB (l.drop k)) false HR.out).mono ?_
      rw [S1.out, S2.out, S3.out, XS.out, XB.out]
      rintro e w2 ⟨rfl, hr2, hg2⟩
      have hr2' : Rd w2 lo g (clB (l.drop (k + 1))) false := hr2
      have R2 := hide hr2'
      have O2 := hide (ownG_row HO.out hg2 (by
        cases h9 : (Value.slice A k c).ownBlock with
        | none => exact .inl rfl
        | some q => exact .inr (fun e => by injection e with e; have := (HO.out.lt q h9).1; omega)))
      have G2 := hide (grown_trans HG.out hg2)
      have hz2 := Nat.le_trans hwz hg2.size
      have HLT : Hid (∀ q, (Value.slice A k c).ownBlock = some q → w.heap.size ≤ q ∧ q < wr.heap.size) := hide (fun q hq => HO.out.lt q hq)
      clear hr2 hr2' hg2 HR HO HG
      have HW4 : Hid (Below w2.heap.size w2 (w2.alloc (.cells (addrC x.1 x.2) 43))) := hide ((Below.refl _ _).alloc (Nat.le_refl _) _)
      have AN : AtG adL (w2.alloc (.cells (addrC x.1 x.2) 43)) w2.heap.size (w2.heap.size + 1) (some ⟨w2.heap.size, 0, none⟩) 1 [x] := AtG.one (Blk.new w2 43 (addrC x.1 x.2))
      obtain ⟨v5, w5, hrun, ho5, hg5, hat5⟩ := run_append_ads (w2.alloc (.cells (addrC x.1 x.2) 43)) w.heap.size 44 (.slice A k c) k (l.take k) (ownG_over O2.out HW4.out) _ _ _ 1 1 [x] (fun y hy => by rw [List.mem_singleton.1 hy]; exact hx16) AN (by omega) (Nat.le_trans hz2 HW4.out.size)
      have HRUN := hide hrun
      have ho5' : w5.ownsRow w.heap.size 43 17 v5 (k + 1) (flatG adL (l.take (k + 1))) := by
        rw [List.take_add_one, HX.out]
        exact ho5
      have O5 := hide ho5'
      have R5 := hide ((R2.out.below HW4.out R2.out.lt).keep hg5 (fun q hq => .inr (by have := (HLT.out q hq).1; omega)))
      have G5 := hide (grown_row9 (grown_trans G2.out (grown_of_below HW4.out (some g))) hg5 (fun q hq => (HLT.out q hq).1))
      clear hrun ho5 ho5' hg5 hat5 AN R2 O2 G2 HW4
      go_wp2_with (first
        | (with_reducible refine wpList_of_run9 rfl (exec_build_ad1 w2 (.tmp 22) rfl hx16 rfl) ?_)
        | (at_builtin; refine wpList_append_ran9 rfl (.tmp 19) (.tmp 23) 44 44 44 rfl rfl rfl rfl HRUN.out ?_; refine Hid.out ?_))
      refine hide ?_
      obtain ⟨A5, c5, rfl, _, _⟩ := ownG_shape O5.out
      go_wp2
      go_roundg (n - (k + 1))
      case measure => omega
      case rel => exact ⟨k + 1, c5, A5, rfl, by omega, Nat.le_refl _, O5.out, R5.out, G5.out⟩
    · obtain rfl : k = n := by omega
      have h0 : ¬ (0 : Int) < (((clB (l.drop k)).length : Nat) : Int) := by omega
      obtain ⟨LN, hLN⟩ : ∃ LN, (clB (l.drop k)).length = LN := ⟨_, rfl⟩
      rw [hLN] at h0
      have HLN := hide hLN
      have HT : Hid (l.take k = l) := hide (List.take_of_length_le (by rw [HN.out]; exact Nat.le_refl _))
      clear hlk hLN
      go_wp2_with (go_at_call 25; refine (Rd.left HR.out).mono ?_; rw [HLN.out]; rintro x wq ⟨rfl, rfl⟩)
      go_ret
      exact ⟨A, c, rfl, by have := HO.out; rw [HT.out] at this; exact this, HG.out⟩
set_option maxRecDepth 20000 in
set_option maxHeartbeats 1000000 in
theorem said_10 (w : World) (lo hi : Nat) (A : Option Addr) (n c : Nat) (l : List (Int × List UInt8)) (hl : l.length ≤ 32) (hsz : ∀ x ∈ l, x.2.length = 16) (hf : l.all (fun x => four x.1 x.2) = true) (h : At w lo hi A n (clB l)) (hh : hi ≤ w.heap.size) :
    Calls Tryd.prog 96 #[.int .i64 10, .slice A n c] w (SaidPost w 10 (.clus l)) := by
  have hn : n ≤ 128 := by have h1 := h.len; rw [clB_len hsz hf] at h1; omega
  have H := hide h
  have HF := hide hf
  have HSZ := hide hsz
  clear h hf hsz
  go_enter Tryd.func96, Tryd.ntmps96
  go_wp2_with fail
  refine (open_any w lo hi A n c (clB l) H.out hh (by omega)).mono ?_
  rintro e w1 ⟨g, rfl, hgl, hr1, hb1⟩
  have R1 := hide hr1
  have W1 := hide hb1
  clear hr1 hb1
  go_wp2_with fail
  refine (listD_any w1 w.heap.size g l R1.out HSZ.out HF.out hl).mono ?_
  rintro e w2 ⟨A2, c2, rfl, ho2, hg2⟩
  have hc2 : l.length ≤ c2 := by
    obtain ⟨_, _, he, hc2, _⟩ := ownG_shape ho2
    injection he with _ _ he
    omega
  have W2 := hide (W1.out.grown hg2 W1.out.size (fun k hk => by injection hk; omega))
  have E2 := hide (AtG.own (fun x hx => adL_len (HSZ.out x hx)) rfl ho2)
  clear ho2 hg2
  obtain ⟨m, hm⟩ : ∃ m, l.length = m := ⟨_, rfl⟩
  rw [hm] at E2 hc2 ⊢
  clear hm
  go_wp2
  go_ret
  refine ⟨_, _, rfl, W2.out, fun p lo' hi' hhi hp => ⟨{ p with cA := A2, cn := m, cc := c2, cl := l }, ?_, rfl, fun y => with_10 y p hp.ob A2 m c2 l⟩⟩
  have hq := hp.below (W2.out.mono hhi)
  exact ⟨hq.ob, ⟨_, _, .inl ⟨rfl, rfl⟩, hq.path⟩, ⟨_, _, .inr ⟨rfl, rfl⟩, ⟨E2.out.more W1.out.size (Nat.le_refl _), fun _ _ => trivial, HSZ.out⟩⟩, ⟨_, _, .inl ⟨rfl, rfl⟩, hq.ex⟩, ⟨_, _, .inl ⟨rfl, rfl⟩, hq.tl⟩, hq.pc, hc2, hq.ec, hq.tc⟩
theorem say_clus (l : List (Int × List UInt8)) (hl : l.length ≤ 32) (hsz : ∀ x ∈ l, x.2.length = 16) (hf : l.all (fun x => four x.1 x.2) = true) (hne : l ≠ []) (a0 : Ats) : Sayable (.clus l) a0 where
  said := fun x lo hi A n c h hh _ => said_10 x lo hi A n c l hl hsz hf h hh
  value := fun x p' lo h he => by
    have h1 : p'.cl = l := congrArg Ats.cl he
    have hlen : (clB l).length = 4 * l.length := clB_len hsz hf
    have hpos := List.length_pos_iff.2 hne
    have h2 := value_10 x lo x.heap.size p' h (Nat.le_refl _) (by rw [h1]; exact hl) (by rw [h1]; exact hf) (by rw [h1]; omega)
    rw [h1] at h2
    exact h2
end Go.Proofs.YtjhpikbilegfaaaDoor
