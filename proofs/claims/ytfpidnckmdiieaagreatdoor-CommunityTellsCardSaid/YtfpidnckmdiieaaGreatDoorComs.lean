/-
  Communities as values and as blocks: their cells, and when two are equal. No condition.
  Plain mathematics of layer 4: what communities are made of, what they tell, their texts. Nothing here speaks of the program.
  What Kind, distinguisher, build, Target, Import, Source, Importer and AS of package community do, in whatever memory. No condition.
  What Importer, join and Text of package community do, in whatever memory. The one condition: the library's tables hold what its text lays.
-/
import Derived.Test.YtfpidnckmdiieaaGreatDoorExec
import Derived.Test.YtfpidnckmdiieaaGreatDoorRds
namespace Go.Proofs.YtfpidnckmdiieaaGreatDoor
open Go.RowKit
set_option linter.unusedVariables false
set_option linter.unusedSimpArgs false

/-- a community, loaded -/
theorem load_ext {w : World} {g : Nat} {t : TypeId} {bs : List UInt8} (h : Blk w g t (rdC bs)) (hl : bs.length = 8) : (loadVar 23 ⟨g, 0, none⟩).run Tryz.prog w = .ok (.agg (rdC bs)) w :=
  run_loadVar_row w g t 23 (rdC bs) (0, 0) _ h Tryz.underlying23 rfl (by rw [rdC_size hl]; kernel_rfl)
theorem wpList_load_ext {ops : Array Oper} {rest : List Oper} {o : Oper} {a : Act} {w : World} {Q : Exit → Act → World → Prop} (hgd : o.guard = none) (x : Operand) (ho : o.op = .load 23 x)
    (g : Nat) (hx : a.eval x = .pointer (some ⟨g, 0, none⟩)) {t : TypeId} {bs : List UInt8} (h : Blk w g t (rdC bs)) (hl : bs.length = 8)
    (hk : wpList Tryz.prog ops Q rest (a.put o.dst (.agg (rdC bs))) w) : wpList Tryz.prog ops Q (o :: rest) a w :=
  wpList_load_row hgd 23 x ho g hx t (rdC bs) (0, 0) _ h Tryz.underlying23 rfl (by rw [rdC_size hl]; kernel_rfl) hk
theorem wpList_load_ext_g {ops : Array Oper} {rest : List Oper} {o : Oper} {a : Act} {w : World} {Q : Exit → Act → World → Prop} (hw : Region.wanted o (yielded ops a.tmps) = true) (x : Operand) (ho : o.op = .load 23 x)
    (g : Nat) (hx : a.eval x = .pointer (some ⟨g, 0, none⟩)) {t : TypeId} {bs : List UInt8} (h : Blk w g t (rdC bs)) (hl : bs.length = 8)
    (hk : wpList Tryz.prog ops Q rest (a.put o.dst (.agg (rdC bs))) w) : wpList Tryz.prog ops Q (o :: rest) a w := by
  unfold wpList
  rw [if_pos hw]
  exact .inl (wp_load_row 23 x ho g hx t (rdC bs) (0, 0) _ h Tryz.underlying23 rfl (by rw [rdC_size hl]; kernel_rfl) hk)
theorem wpList_store_ext {ops : Array Oper} {rest : List Oper} {o : Oper} {a : Act} {w : World} {Q : Exit → Act → World → Prop} (hgd : o.guard = none) (x y : Operand) (ho : o.op = .store 23 x y)
    (g : Nat) (hx : a.eval x = .pointer (some ⟨g, 0, none⟩)) {bs : List UInt8} (hy : a.eval y = .agg (rdC bs)) (hl : bs.length = 8) {t : TypeId} {old : Array Value} (h : Blk w g t old) (hold : old.size = 8)
    (hk : ∀ w', Blk w' g t (rdC bs) → w.grownBy w' (some g) → wpList Tryz.prog ops Q rest (a.put o.dst undef) w') : wpList Tryz.prog ops Q (o :: rest) a w :=
  wpList_store_row hgd 23 x y ho g (rdC bs) hx hy t old h (by rw [rdC_size hl]; kernel_rfl) (by rw [rdC_size hl, hold]) (rdC_one bs) (hk _ (h.setRow _) (grown_setRow _ _ _))
/-- what a function hands back: a community, and a second thing -/
theorem ret_ext2 {fn : Func} {R : Ending → World → Prop} {a : Act} {w : World} {p q : Tmp} {g : Nat} {t : TypeId} {bs : List UInt8} {v : Value} (hf : fn.results = #[.cell p 23, .tmp q])
    (hp : a.tmps.getD p undef = .pointer (some ⟨g, 0, none⟩)) (hq : a.tmps.getD q undef = v) (h : Blk w g t (rdC bs)) (hl : bs.length = 8) (hd : a.defers = []) (hR : R (.returned (.tuple #[.agg (rdC bs), v])) w) :
    bodyPost Tryz.prog fn R .ret a w := by
  refine bodyPost_ret (v := .tuple #[.agg (rdC bs), v]) ?_ hd hR
  have hp' : a.tmps[p]?.getD undef = .pointer (some ⟨g, 0, none⟩) := by simpa using hp
  have hq' : a.tmps[q]?.getD undef = v := by simpa using hq
  simp [results, hf, hp', hq', asAddr, load_ext h hl]
theorem ret_ext1 {fn : Func} {R : Ending → World → Prop} {a : Act} {w : World} {p : Tmp} {g : Nat} {t : TypeId} {bs : List UInt8} (hf : fn.results = #[.cell p 23])
    (hp : a.tmps.getD p undef = .pointer (some ⟨g, 0, none⟩)) (h : Blk w g t (rdC bs)) (hl : bs.length = 8) (hd : a.defers = []) (hR : R (.returned (.agg (rdC bs))) w) :
    bodyPost Tryz.prog fn R .ret a w := by
  refine bodyPost_ret (v := .agg (rdC bs)) ?_ hd hR
  have hp' : a.tmps[p]?.getD undef = .pointer (some ⟨g, 0, none⟩) := by simpa using hp
  simp [results, hf, hp', asAddr, load_ext h hl]
/-- '==' at communities -/
theorem ext_eq (w : World) (xs ys : List UInt8) (hx : xs.length = 8) (hy : ys.length = 8) :
    (Op.equalIn 10000 23 (.agg (rdC xs)) (.agg (rdC ys))).run Tryz.prog w = .ok (xs == ys) w :=
  run_equalIn_bytes (P := Tryz.prog) w 9998 23 5 8 Tryz.underlying23 Tryz.underlying5 Tryz.sizeOf5 xs ys hx hy
theorem eql_ext (xs ys : List UInt8) (hx : xs.length = 8) (hy : ys.length = 8) (w : World) :
    (binOp .eql 23 (.agg (rdC xs)) (.agg (rdC ys))).run Tryz.prog w = .ok (.bool (xs == ys)) w := by
  rw [run_eql_struct, ext_eq w xs ys hx hy]
  rfl
theorem neq_ext (xs ys : List UInt8) (hx : xs.length = 8) (hy : ys.length = 8) (w : World) :
    (binOp .neq 23 (.agg (rdC xs)) (.agg (rdC ys))).run Tryz.prog w = .ok (.bool (!(xs == ys))) w := by
  rw [run_neq_struct, ext_eq w xs ys hx hy]
  rfl
section
variable {ops : Array Oper} {rest : List Oper} {o : Oper} {a : Act} {w : World} {Q : Exit → Act → World → Prop}
theorem wpList_eql_ext (hw : Region.wanted o (yielded ops a.tmps) = true) (x y : Operand) (ho : o.op = .binOp .eql 23 x y 23)
    {xs ys : List UInt8} (hx : a.eval x = .agg (rdC xs)) (hy : a.eval y = .agg (rdC ys)) (lx : xs.length = 8) (ly : ys.length = 8)
    (hk : wpList Tryz.prog ops Q rest (a.put o.dst (.bool (xs == ys))) w) : wpList Tryz.prog ops Q (o :: rest) a w := by
  unfold wpList
  rw [if_pos hw]
  refine .inl ?_
  have hg : Tryz.prog.eqGuardType Tryz.prog.depth 23 = false := by kernel_rfl
  have hg' := run_eqGuard_agg (P := Tryz.prog) w .eql 23 x y (rdC xs) (rdC ys) hg
  unfold Oper.wp execOp
  simp only [ho, hx, hy, Sem.run_bind, hg', Result.andThen_ok, eql_ext xs ys lx ly]
  exact hk
theorem wpList_neq_ext (hw : Region.wanted o (yielded ops a.tmps) = true) (x y : Operand) (ho : o.op = .binOp .neq 23 x y 23)
    {xs ys : List UInt8} (hx : a.eval x = .agg (rdC xs)) (hy : a.eval y = .agg (rdC ys)) (lx : xs.length = 8) (ly : ys.length = 8)
    (hk : wpList Tryz.prog ops Q rest (a.put o.dst (.bool (!(xs == ys)))) w) : wpList Tryz.prog ops Q (o :: rest) a w := by
  unfold wpList
  rw [if_pos hw]
  refine .inl ?_
  have hg : Tryz.prog.eqGuardType Tryz.prog.depth 23 = false := by kernel_rfl
  have hg' := run_eqGuard_agg (P := Tryz.prog) w .neq 23 x y (rdC xs) (rdC ys) hg
  unfold Oper.wp execOp
  simp only [ho, hx, hy, Sem.run_bind, hg', Result.andThen_ok, neq_ext xs ys lx ly]
  exact hk
end
/-- copy(d[:], b) -/
theorem wpList_copy_ext {ops : Array Oper} {rest : List Oper} {o : Oper} {a : Act} {w : World} {Q : Exit → Act → World → Prop} (hgd : o.guard = none) (d s : Operand)
    (ho : o.op = .call { callee := .builtin .copy, args := #[d, s], argTypes := #[39, 39] })
    (g n c lo hi : Nat) (A : Option Addr) (bs : List UInt8) (t : TypeId) (hg : Blk w g t (rdC zero8)) (hr : At w lo hi A n bs)
    (hd : a.eval d = .slice (some ⟨g, 0, none⟩) 8 8) (hs : a.eval s = .slice A n c)
    (h : ∀ w', Blk w' g t (rdC (pad8 bs)) → w.grownBy w' (some g) → wpList Tryz.prog ops Q rest (a.put o.dst (goInt ((min n 8 : Nat) : Int))) w') : wpList Tryz.prog ops Q (o :: rest) a w := by
  have hl := hr.len
  have hsz : (Tryz.prog.info? 5).map (·.size) = some 1 := by kernel_rfl
  rcases Nat.eq_zero_or_pos n with h0 | h0
  · subst h0
    have : bs = [] := List.eq_nil_of_length_eq_zero hl
    subst this
    refine wpList_copy_nothing hgd d s 39 39 ho 5 Tryz.underlying39 hsz _ _ _ _ _ _ hd hs (by simp) ?_
    exact h w hg (grown_refl w _)
  · obtain ⟨ad, rfl, hc⟩ := hr.cells h0
    have ht : ((bvs bs).take 8).length = min n 8 := by rw [List.length_take, bvs_length, hl, Nat.min_comm]
    refine wpList_copy_own hgd d s 39 39 ho 5 Tryz.underlying39 hsz g 0 8 8 ad n c hd hs (rdC zero8) t hg ((bvs bs).take 8) ht (fun j v hv => hc j v (by
        rw [List.getElem?_take] at hv
        split at hv
        · exact hv
        · cases hv))
      (by rw [rdC_size zero8_len, ht]; omega) (fun v hv => bvs_one bs v (List.mem_of_mem_take hv)) ?_
    rw [ht]
    have e : ((rdC zero8).toList.take 0 ++ ((bvs bs).take 8 ++ (rdC zero8).toList.drop (0 + min n 8))).toArray = rdC (pad8 bs) := by
      unfold rdC
      refine congrArg List.toArray ?_
      rw [← pad_cells, hl]
      simp only [List.take_zero, List.nil_append, Nat.zero_add]
    rw [e]
    exact h _ (hg.setRow _) (grown_setRow _ _ _)
end Go.Proofs.YtfpidnckmdiieaaGreatDoor
namespace Go.Proofs.YtfpidnckmdiieaaGreatDoor
set_option linter.unusedVariables false
set_option linter.unusedSimpArgs false

/-- the bytes of one of a distinguisher's: the kind has one byte less -/
def swp (what : UInt8) (d : List UInt8) : List UInt8 := (d.drop 1).take 1 ++ what :: d.drop 2
/-- the distinguisher that a target is built of -/
def uns (e : List UInt8) : List UInt8 := 0 :: (e.take 1 ++ e.drop 2)
theorem swp_len (what : UInt8) {d : List UInt8} (h : d.length = 8) : (swp what d).length = 8 := by
  unfold swp; simp [h]
theorem uns_len {e : List UInt8} (h : e.length = 8) : (uns e).length = 8 := by
  unfold uns; simp [h]
/-- what is made -/
def cmB (what : UInt8) (k h l : Int) : List UInt8 := if mkE k h l = 0 then swp what (mkB k h l) else zero8
theorem cmB_len (what : UInt8) (k h l : Int) : (cmB what k h l).length = 8 := by
  unfold cmB
  split
  · exact swp_len _ (mkB_len _ _ _)
  · rfl
def impB (s : Int) (bs : List UInt8) (n : Int) : List UInt8 := if rightA s bs = true ∧ s = 4 then cmB 11 1 (big (bs.take 4) : Nat) n else zero8
def impE (s : Int) (bs : List UInt8) (n : Int) : Int := if rightA s bs = true ∧ s = 4 then mkE 1 (big (bs.take 4) : Nat) n else 1
theorem impB_len (s : Int) (bs : List UInt8) (n : Int) : (impB s bs n).length = 8 := by
  unfold impB
  split
  · exact cmB_len _ _ _ _
  · rfl
/-- a byte of one, as a number -/
def nth (e : List UInt8) (i : Nat) : Nat := ((e[i]?).getD 0).toNat
theorem nth_lt (e : List UInt8) (i : Nat) : nth e i < 256 := UInt8.toNat_lt _
theorem nth_get {e : List UInt8} {i : Nat} (h : i < e.length) : e[i]? = some (UInt8.ofNat (nth e i)) := by
  unfold nth
  rw [List.getElem?_eq_getElem h]
  simp
/-- what one is: 1 a target, 2 an import, 3 a source, 0 another one -/
def kdX (e : List UInt8) : Nat :=
  if nth e 1 = 2 ∧ nth e 0 ≤ 2 then 1
  else if nth e 1 = 11 ∧ nth e 0 = 1 then 2
  else if nth e 1 = 9 ∧ nth e 0 = 2 ∧ nth e 6 = 0 ∧ nth e 7 = 0 then 3 else 0
theorem kdX_cases (e : List UInt8) : kdX e = 1 ∨ kdX e = 2 ∨ kdX e = 3 ∨ kdX e = 0 := by
  unfold kdX
  split
  · exact .inl rfl
  · split
    · exact .inr (.inl rfl)
    · split
      · exact .inr (.inr (.inl rfl))
      · exact .inr (.inr (.inr rfl))
/-- the address, the number, the AS that stand in one -/
def adX (e : List UInt8) : List UInt8 := (e.drop 2).take 4
def noX (e : List UInt8) : Nat := big (e.drop 6)
def asX (e : List UInt8) : Nat := big ((e.drop 2).take 4)
def isImp (e : List UInt8) : Bool := decide (kdX e = 2)
def isSrc (e : List UInt8) : Bool := decide (kdX e = 3)
def impS (e : List UInt8) : Int := if kdX e = 2 then 4 else 0
def impA (e : List UInt8) : List UInt8 := if kdX e = 2 then pad (adX e) else zero16
def impN (e : List UInt8) : Nat := if kdX e = 2 then noX e else 0
def srcA (e : List UInt8) : Nat := if kdX e = 3 then asX e else 0
theorem adX_len {e : List UInt8} (h : e.length = 8) : (adX e).length = 4 := by unfold adX; simp [h]
theorem impA_len {e : List UInt8} (h : e.length = 8) : (impA e).length = 16 := by
  unfold impA
  split
  · unfold pad; simp [adX_len h]
  · rfl
theorem asX_lt (e : List UInt8) : asX e < 4294967296 := by
  unfold asX
  have := big_lt ((e.drop 2).take 4)
  have h4 : ((e.drop 2).take 4).length ≤ 4 := by rw [List.length_take]; omega
  have : (256 : Nat) ^ ((e.drop 2).take 4).length ≤ 256 ^ 4 := Nat.pow_le_pow_right (by omega) h4
  have : (256 : Nat) ^ 4 = 4294967296 := by decide
  omega
theorem noX_lt {e : List UInt8} (h : e.length = 8) : noX e < 65536 := by
  unfold noX
  have h2 : (e.drop 6).length = 2 := by simp [h]
  have := big_small h2
  omega

/-- the signs of the words -/
def wTarget : List UInt8 := [114, 116]
def wImport : List UInt8 := [105, 109, 112, 111, 114, 116]
def wSource : List UInt8 := [115, 111, 117, 114, 99, 101]
def wOther : List UInt8 := [111, 116, 104, 101, 114]
def textX (e : List UInt8) : List UInt8 :=
  if kdX e = 1 then wTarget ++ 58 :: textR (uns e)
  else if kdX e = 2 then wImport ++ 58 :: (textA 4 (pad (adX e)) ++ 58 :: numeral 10 (noX e))
  else if kdX e = 3 then wSource ++ 58 :: numeral 10 (asX e)
  else wOther ++ 58 :: hexs e
def rdTgt (s : List UInt8) : List UInt8 := cmB 2 (ptK (parseR s).1 : Nat) (ptH (parseR s).1 : Nat) (ptL (parseR s).1 : Nat)
def rdImp (s : List UInt8) : List UInt8 := impB (parseA (Lib.cut s [58]).1).1 (parseA (Lib.cut s [58]).1).2.1 (numV 10 top32 (Lib.cut s [58]).2.1 : Nat)
def readX (s : List UInt8) : List UInt8 :=
  if (Lib.cut s [58]).1 = wTarget then rdTgt (Lib.cut s [58]).2.1
  else if (Lib.cut s [58]).1 = wImport then rdImp (Lib.cut s [58]).2.1
  else if (Lib.cut s [58]).1 = wSource then cmB 9 2 (numV 10 top32 (Lib.cut s [58]).2.1 : Nat) 0
  else pad8 (hexB (Lib.cut s [58]).2.1)
def parseX (s : List UInt8) : List UInt8 × Int := if textX (readX s) = s then (readX s, 0) else (zero8, 4)
theorem rdTgt_len (s : List UInt8) : (rdTgt s).length = 8 := cmB_len _ _ _ _
theorem rdImp_len (s : List UInt8) : (rdImp s).length = 8 := impB_len _ _ _
theorem readX_len (s : List UInt8) : (readX s).length = 8 := by
  unfold readX
  repeat' split
  · exact rdTgt_len _
  · exact rdImp_len _
  · exact cmB_len _ _ _ _
  · exact pad8_len _
theorem parseX_len (s : List UInt8) : (parseX s).1.length = 8 := by
  unfold parseX
  split
  · exact readX_len s
  · rfl
theorem text_parseX {s : List UInt8} (h : (parseX s).2 = 0) : textX (parseX s).1 = s := by
  unfold parseX at h ⊢
  split at h
  · rename_i hc
    rw [if_pos hc]
    exact hc
  · cases h

/-! ### what was made tells what it was made of -/
/-- eight bytes, one by one -/
theorem eight {e : List UInt8} (h : e.length = 8) : ∃ b0 b1 b2 b3 b4 b5 b6 b7, e = [b0, b1, b2, b3, b4, b5, b6, b7] := by
  match e, h with
  | [b0, b1, b2, b3, b4, b5, b6, b7], _ => exact ⟨b0, b1, b2, b3, b4, b5, b6, b7, rfl⟩
theorem u8_of_toNat {b : UInt8} {n : Nat} (hn : n < 256) (h : b.toNat = n) : b = UInt8.ofNat n := by
  apply UInt8.toNat_inj.1
  rw [h]; simp; omega
theorem big2 (a b : UInt8) : big [a, b] = a.toNat * 256 + b.toNat := by
  simp [big]
theorem knd_swp (d : List UInt8) (h : d.length = 8) : knd d = nth d 0 * 256 + nth d 1 := by
  obtain ⟨b0, b1, b2, b3, b4, b5, b6, b7, rfl⟩ := eight h
  unfold knd nth
  simp [big2]
theorem swp_nth (what : UInt8) {d : List UInt8} (h : d.length = 8) : nth (swp what d) 0 = nth d 1 ∧ nth (swp what d) 1 = what.toNat ∧ nth (swp what d) 6 = nth d 6 ∧ nth (swp what d) 7 = nth d 7 ∧ (swp what d).drop 2 = d.drop 2 := by
  obtain ⟨b0, b1, b2, b3, b4, b5, b6, b7, rfl⟩ := eight h
  exact ⟨rfl, rfl, rfl, rfl, rfl⟩
theorem uns_swp {d : List UInt8} (h : d.length = 8) (hk : knd d < 256) (what : UInt8) : uns (swp what d) = d := by
  have h0 := knd_swp d h
  have h1 : nth d 0 = 0 := by omega
  obtain ⟨b0, b1, b2, b3, b4, b5, b6, b7, rfl⟩ := eight h
  have : b0 = 0 := u8_of_toNat (n := 0) (by decide) h1
  subst this
  rfl
theorem swp_uns {e : List UInt8} (h : e.length = 8) {what : UInt8} (hw : nth e 1 = what.toNat) : swp what (uns e) = e := by
  obtain ⟨b0, b1, b2, b3, b4, b5, b6, b7, rfl⟩ := eight h
  have : b1 = what := UInt8.toNat_inj.1 hw
  subst this
  rfl
theorem knd_uns {e : List UInt8} (h : e.length = 8) : knd (uns e) = nth e 0 := by
  rw [knd_swp _ (uns_len h)]
  obtain ⟨b0, b1, b2, b3, b4, b5, b6, b7, rfl⟩ := eight h
  show 0 * 256 + _ = _
  rw [Nat.zero_mul, Nat.zero_add]
  rfl
/-- a target -/
theorem target_made {k h l : Int} (he : mkE k h l = 0) : kdX (cmB 2 k h l) = 1 := by
  have hf := mkE_zero.1 he
  obtain ⟨hk, k0, _, _⟩ := parts_made hf
  have hl := mkB_len k h l
  obtain ⟨s0, s1, _⟩ := swp_nth 2 hl
  have h2 : knd (mkB k h l) ≤ 2 := of_decide_eq_true hk
  have h3 := knd_swp _ hl
  unfold kdX cmB
  rw [if_pos he, s0, s1, if_pos ⟨rfl, by omega⟩]
/-- what parts of a target's distinguisher give it again -/
theorem target_again {e : List UInt8} (h : e.length = 8) (hk : kdX e = 1) : knownR (uns e) = true ∧ cmB 2 (knd (uns e) : Nat) (hiR (uns e) : Nat) (loR (uns e) : Nat) = e := by
  have hh : nth e 1 = 2 ∧ nth e 0 ≤ 2 := by
    unfold kdX at hk
    split at hk
    · assumption
    · split at hk
      · cases hk
      · split at hk <;> cases hk
  have hu := uns_len h
  have hkn : knownR (uns e) = true := decide_eq_true (by rw [knd_uns h]; exact hh.2)
  obtain ⟨m1, m2⟩ := made_parts hu hkn
  refine ⟨hkn, ?_⟩
  unfold cmB
  rw [if_pos m2, m1]
  exact swp_uns h hh.1
theorem imp_parts {e : List UInt8} (hk : kdX e = 2) : nth e 1 = 11 ∧ nth e 0 = 1 := by
  unfold kdX at hk
  split at hk
  · cases hk
  · split at hk
    · assumption
    · split at hk <;> cases hk
theorem src_parts {e : List UInt8} (hk : kdX e = 3) : nth e 1 = 9 ∧ nth e 0 = 2 ∧ nth e 6 = 0 ∧ nth e 7 = 0 := by
  unfold kdX at hk
  split at hk
  · cases hk
  · split at hk
    · cases hk
    · split at hk
      · assumption
      · cases hk
theorem hiR_uns1 {e : List UInt8} (h : e.length = 8) (h0 : nth e 0 = 1) : hiR (uns e) = asX e ∧ loR (uns e) = noX e := by
  have hk : knd (uns e) = 1 := by rw [knd_uns h, h0]
  unfold hiR loR asX noX
  rw [hk]
  obtain ⟨b0, b1, b2, b3, b4, b5, b6, b7, rfl⟩ := eight h
  exact ⟨rfl, rfl⟩
theorem hiR_uns2 {e : List UInt8} (h : e.length = 8) (h0 : nth e 0 = 2) : hiR (uns e) = asX e ∧ loR (uns e) = noX e := by
  have hk : knd (uns e) = 2 := by rw [knd_uns h, h0]
  unfold hiR loR asX noX
  rw [hk]
  obtain ⟨b0, b1, b2, b3, b4, b5, b6, b7, rfl⟩ := eight h
  exact ⟨rfl, rfl⟩
/-- an import is made again of what it tells -/
theorem import_again {e : List UInt8} (h : e.length = 8) (hk : kdX e = 2) : impB 4 (pad (adX e)) (noX e : Nat) = e ∧ impE 4 (pad (adX e)) (noX e : Nat) = 0 := by
  obtain ⟨h1, h0⟩ := imp_parts hk
  have hu := uns_len h
  have hkn : knownR (uns e) = true := decide_eq_true (by rw [knd_uns h, h0]; decide)
  obtain ⟨m1, m2⟩ := made_parts hu hkn
  obtain ⟨u1, u2⟩ := hiR_uns1 h h0
  have hk1 : knd (uns e) = 1 := by rw [knd_uns h, h0]
  rw [hk1, u1, u2] at m1 m2
  have hr : rightA 4 (pad (adX e)) = true := by
    have h4 := adX_len h
    have := right_four (big (adX e))
    rwa [be_of_big h4] at this
  have ht : (pad (adX e)).take 4 = adX e := by
    unfold pad
    rw [List.take_append_of_le_length (by rw [adX_len h]; exact Nat.le_refl _), List.take_of_length_le (by rw [adX_len h]; exact Nat.le_refl _)]
  unfold impB impE
  rw [if_pos ⟨hr, rfl⟩, if_pos ⟨hr, rfl⟩, ht]
  refine ⟨?_, m2⟩
  unfold cmB
  have m2' : mkE 1 (big (adX e) : Nat) (noX e : Nat) = 0 := m2
  have m1' : mkB 1 (big (adX e) : Nat) (noX e : Nat) = uns e := m1
  rw [if_pos m2', m1']
  exact swp_uns h h1
/-- a source is made again of what it tells -/
theorem source_again {e : List UInt8} (h : e.length = 8) (hk : kdX e = 3) : cmB 9 2 (asX e : Nat) 0 = e ∧ mkE 2 (asX e : Nat) 0 = 0 := by
  obtain ⟨h1, h0, h6, h7⟩ := src_parts hk
  have hu := uns_len h
  have hkn : knownR (uns e) = true := decide_eq_true (by rw [knd_uns h, h0]; decide)
  obtain ⟨m1, m2⟩ := made_parts hu hkn
  obtain ⟨u1, u2⟩ := hiR_uns2 h h0
  have hk1 : knd (uns e) = 2 := by rw [knd_uns h, h0]
  rw [hk1, u1, u2] at m1 m2
  have hn : noX e = 0 := by
    unfold noX
    obtain ⟨b0, b1, b2, b3, b4, b5, b6, b7, rfl⟩ := eight h
    show big [b6, b7] = 0
    rw [big2]
    have e6 : b6.toNat = 0 := h6
    have e7 : b7.toNat = 0 := h7
    omega
  rw [hn] at m1 m2
  refine ⟨?_, m2⟩
  unfold cmB
  have m2' : mkE 2 (asX e : Nat) 0 = 0 := m2
  have m1' : mkB 2 (asX e : Nat) 0 = uns e := m1
  rw [if_pos m2', m1']
  exact swp_uns h h1
/-- what an import tells is what it was made of -/
theorem import_made {s : Int} {bs : List UInt8} {n : Int} (hl : bs.length = 16) (he : impE s bs n = 0) : kdX (impB s bs n) = 2 ∧ s = 4 ∧ pad (adX (impB s bs n)) = bs ∧ (noX (impB s bs n) : Int) = n := by
  unfold impE at he
  split at he
  · rename_i hr
    obtain ⟨hr, rfl⟩ := hr
    have hf := mkE_zero.1 he
    obtain ⟨hk, k0, h0, l0⟩ := parts_made hf
    have hml := mkB_len 1 (big (bs.take 4) : Nat) n
    obtain ⟨s0, s1, _, _, s2⟩ := swp_nth 11 hml
    have h3 := knd_swp _ hml
    have e : impB 4 bs n = swp 11 (mkB 1 (big (bs.take 4) : Nat) n) := by
      unfold impB cmB
      rw [if_pos ⟨hr, rfl⟩, if_pos he]
    rw [e]
    have hk1 : knd (mkB 1 (big (bs.take 4) : Nat) n) = 1 := by omega
    have hhi : hiR (mkB 1 (big (bs.take 4) : Nat) n) = big (bs.take 4) := by omega
    unfold hiR at hhi
    unfold loR at l0
    rw [hk1] at hhi l0
    have hs : hsN ((1 : Nat) : Int) = 4 := rfl
    rw [hs] at hhi l0
    refine ⟨?_, rfl, ?_, ?_⟩
    · unfold kdX
      rw [s0, s1]
      rw [if_neg (by rintro ⟨h, _⟩; exact absurd h (by decide)), if_pos ⟨rfl, by have := nth_lt (mkB 1 (big (bs.take 4) : Nat) n) 1; omega⟩]
    · unfold adX
      rw [s2]
      have l4 : (((mkB 1 (big (bs.take 4) : Nat) n).drop 2).take 4).length = 4 := by simp [hml]
      have l4' : (bs.take 4).length = 4 := by simp [hl]
      have := be_of_big l4
      rw [hhi, be_of_big l4'] at this
      rw [← this]
      have h12 : bs.drop 4 = List.replicate 12 0 := by
        unfold rightA at hr
        simp only [Bool.and_eq_true, decide_eq_true_eq] at hr
        have h2 := hr.2
        simp only [show Int.toNat 4 = 4 from rfl] at h2
        first
          | exact h2
          | (have h3 : ∀ x ∈ bs.drop 4, x = 0 := by simpa using h2
             exact List.eq_replicate_iff.2 ⟨by simp [hl], h3⟩)
      unfold pad
      rw [l4', ← h12, List.take_append_drop]
    · unfold noX
      have : (swp 11 (mkB 1 (big (bs.take 4) : Nat) n)).drop 6 = ((mkB 1 (big (bs.take 4) : Nat) n).drop 2).drop 4 := by
        rw [← s2, List.drop_drop]
      rw [this]
      exact l0
  · omega
/-- what a source tells is what it was made of -/
theorem source_made {n : Int} (he : mkE 2 n 0 = 0) : kdX (cmB 9 2 n 0) = 3 ∧ (asX (cmB 9 2 n 0) : Int) = n := by
  have hf := mkE_zero.1 he
  obtain ⟨hk, k0, h0, l0⟩ := parts_made hf
  have hml := mkB_len 2 n 0
  obtain ⟨s0, s1, s6, s7, s2⟩ := swp_nth 9 hml
  have h3 := knd_swp _ hml
  have e : cmB 9 2 n 0 = swp 9 (mkB 2 n 0) := by unfold cmB; rw [if_pos he]
  rw [e]
  have hk1 : knd (mkB 2 n 0) = 2 := by omega
  unfold hiR at h0
  unfold loR at l0
  rw [hk1] at h0 l0
  have hs : hsN ((2 : Nat) : Int) = 4 := rfl
  rw [hs] at h0 l0
  have hz : nth (mkB 2 n 0) 6 = 0 ∧ nth (mkB 2 n 0) 7 = 0 := by
    generalize mkB 2 n 0 = d at hml l0
    obtain ⟨b0, b1, b2, b3, b4, b5, b6, b7, rfl⟩ := eight hml
    have l1 : (big [b6, b7] : Int) = 0 := l0
    rw [big2] at l1
    show b6.toNat = 0 ∧ b7.toNat = 0
    omega
  refine ⟨?_, ?_⟩
  · unfold kdX
    rw [s0, s1, s6, s7]
    have := nth_lt (mkB 2 n 0) 1
    rw [if_neg (by rintro ⟨h, _⟩; exact absurd h (by decide)), if_neg (by rintro ⟨h, _⟩; exact absurd h (by decide)), if_pos ⟨rfl, by omega, hz.1, hz.2⟩]
  · unfold asX
    rw [s2]
    exact h0

/-! ### what is written is read -/
theorem read_textX {e : List UInt8} (hl : e.length = 8) : readX (textX e) = e := by
  rcases kdX_cases e with hk | hk | hk | hk
  · have ht : textX e = wTarget ++ 58 :: textR (uns e) := by unfold textX; rw [if_pos hk]
    obtain ⟨hkn, hag⟩ := target_again hl hk
    unfold readX
    rw [ht, cut_one_hit (by decide)]
    simp only
    rw [if_pos trivial]
    unfold rdTgt
    rw [parse_textR (uns_len hl)]
    simp only
    rw [(parts_known hkn).1, (parts_known hkn).2.1, (parts_known hkn).2.2]
    exact hag
  · have ht : textX e = wImport ++ 58 :: (textA 4 (pad (adX e)) ++ 58 :: numeral 10 (noX e)) := by unfold textX; rw [if_neg (by omega), if_pos hk]
    obtain ⟨hag, _⟩ := import_again hl hk
    have h4 := adX_len hl
    have hr : rightA 4 (pad (adX e)) = true := by
      have := right_four (big (adX e))
      rwa [be_of_big h4] at this
    have hpl : (pad (adX e)).length = 16 := by unfold pad; simp [h4]
    have hno : (58 : UInt8) ∉ textA 4 (pad (adX e)) := by rw [textA_four hr]; exact text4_no58 _
    unfold readX
    rw [ht, cut_one_hit (by decide)]
    simp only
    rw [if_neg (by decide), if_pos trivial]
    unfold rdImp
    rw [cut_one_hit hno]
    simp only
    rw [parse_text hpl hr]
    simp only
    rw [(numeral_num (b := 10) (top := top32) (by decide) (by decide) (by have := noX_lt hl; unfold top32; omega)).2]
    exact hag
  · have ht : textX e = wSource ++ 58 :: numeral 10 (asX e) := by unfold textX; rw [if_neg (by omega), if_neg (by omega), if_pos hk]
    obtain ⟨hag, _⟩ := source_again hl hk
    unfold readX
    rw [ht, cut_one_hit (by decide)]
    simp only
    rw [if_neg (by decide), if_neg (by decide), if_pos trivial, (numeral_num (b := 10) (top := top32) (by decide) (by decide) (by have := asX_lt e; unfold top32; omega)).2]
    exact hag
  · have ht : textX e = wOther ++ 58 :: hexs e := by unfold textX; rw [if_neg (by omega), if_neg (by omega), if_neg (by omega)]
    unfold readX
    rw [ht, cut_one_hit (by decide)]
    simp only
    rw [if_neg (by decide), if_neg (by decide), if_neg (by decide), hexB_hexs, pad8_full hl]
theorem parse_textX {e : List UInt8} (hl : e.length = 8) : parseX (textX e) = (e, 0) := by
  unfold parseX
  rw [read_textX hl, if_pos rfl]
theorem textX_inj {d o : List UInt8} (hd : d.length = 8) (ho : o.length = 8) : textX d = textX o ↔ d = o :=
  ⟨fun h => by rw [← read_textX hd, ← read_textX ho, h], fun h => by rw [h]⟩
theorem textX_len {e : List UInt8} (hl : e.length = 8) : (textX e).length ≤ 100 := by
  unfold textX
  split
  · have := textR_len (uns_len hl)
    simp only [wTarget, List.length_append, List.length_cons, List.length_nil]
    omega
  · split
    · have hr : rightA 4 (pad (adX e)) = true := by
        have := right_four (big (adX e))
        rwa [be_of_big (adX_len hl)] at this
      have h1 : (textA 4 (pad (adX e))).length ≤ 16 := by
        rw [textA_four hr]
        unfold text4
        have := join_len [46] 3 (((pad (adX e)).take 4).map fun b => numeral 10 b.toNat) (by
          intro x hx
          obtain ⟨b, _, rfl⟩ := List.mem_map.1 hx
          exact numeral_len (by decide) 2 b.toNat (by have := b.toNat_lt; omega))
        simp only [List.length_map, List.length_take, List.length_singleton] at this
        omega
      have h2 := numeral_len (b := 10) (by decide) 4 (noX e) (by have := noX_lt hl; omega)
      simp only [wImport, List.length_append, List.length_cons, List.length_nil]
      omega
    · split
      · have h2 := numeral_len (b := 10) (by decide) 9 (asX e) (by have := asX_lt e; omega)
        simp only [wSource, List.length_append, List.length_cons, List.length_nil]
        omega
      · simp only [wOther, List.length_append, List.length_cons, List.length_nil, hexs_len, hl]
        omega
end Go.Proofs.YtfpidnckmdiieaaGreatDoor
namespace Go.Proofs.YtfpidnckmdiieaaGreatDoor
open Go.RowKit
set_option linter.unusedVariables false
set_option linter.unusedSimpArgs false

theorem rdC_nth {e : List UInt8} (hl : e.length = 8) {i : Nat} (hi : i < 8) : (rdC e)[i]? = some (.int .u8 (nth e i : Nat)) := by
  have h := nth_get (e := e) (i := i) (by omega)
  rw [rdC_byte h]
  have := nth_lt e i
  simp; omega
/-- Kind's cases, as the program asks them -/
theorem kd_split (e : List UInt8) : ∃ z0 z1 z6 z7 : Int, z0 = (nth e 0 : Nat) ∧ z1 = (nth e 1 : Nat) ∧ z6 = (nth e 6 : Nat) ∧ z7 = (nth e 7 : Nat) ∧
    ((z1 = 2 ∧ decide (z0 ≤ 2) = true ∧ kdX e = 1) ∨ (z1 = 11 ∧ z0 = 1 ∧ kdX e = 2) ∨ (z1 = 9 ∧ z0 = 2 ∧ z6 = 0 ∧ z7 = 0 ∧ kdX e = 3) ∨
     (z1 = 2 ∧ decide (z0 ≤ 2) = false ∧ kdX e = 0) ∨ (z1 = 11 ∧ (z0 == 1) = false ∧ kdX e = 0) ∨ (z1 = 9 ∧ (z0 == 2) = false ∧ kdX e = 0) ∨
     (z1 = 9 ∧ z0 = 2 ∧ (z6 == 0) = false ∧ kdX e = 0) ∨ (z1 = 9 ∧ z0 = 2 ∧ z6 = 0 ∧ (z7 == 0) = false ∧ kdX e = 0) ∨
     ((z1 == 2) = false ∧ (z1 == 11) = false ∧ (z1 == 9) = false ∧ kdX e = 0)) := by
  refine ⟨_, _, _, _, rfl, rfl, rfl, rfl, ?_⟩
  unfold kdX
  generalize nth e 0 = a
  generalize nth e 1 = b
  generalize nth e 6 = c
  generalize nth e 7 = d
  by_cases b2 : b = 2
  · by_cases a2 : a ≤ 2
    · refine .inl ⟨by omega, decide_eq_true (by omega), by rw [if_pos ⟨b2, a2⟩]⟩
    · refine .inr (.inr (.inr (.inl ⟨by omega, decide_eq_false (by omega), by rw [if_neg (by omega), if_neg (by omega), if_neg (by omega)]⟩)))
  · by_cases b11 : b = 11
    · by_cases a1 : a = 1
      · refine .inr (.inl ⟨by omega, by omega, by rw [if_neg (by omega), if_pos ⟨b11, a1⟩]⟩)
      · refine .inr (.inr (.inr (.inr (.inl ⟨by omega, beq_eq_false_iff_ne.2 (by omega), by rw [if_neg (by omega), if_neg (by omega), if_neg (by omega)]⟩))))
    · by_cases b9 : b = 9
      · by_cases a2 : a = 2
        · by_cases c0 : c = 0
          · by_cases d0 : d = 0
            · refine .inr (.inr (.inl ⟨by omega, by omega, by omega, by omega, by rw [if_neg (by omega), if_neg (by omega), if_pos ⟨b9, a2, c0, d0⟩]⟩))
            · refine .inr (.inr (.inr (.inr (.inr (.inr (.inr (.inl ⟨by omega, by omega, by omega, beq_eq_false_iff_ne.2 (by omega), by rw [if_neg (by omega), if_neg (by omega), if_neg (by omega)]⟩)))))))
          · refine .inr (.inr (.inr (.inr (.inr (.inr (.inl ⟨by omega, by omega, beq_eq_false_iff_ne.2 (by omega), by rw [if_neg (by omega), if_neg (by omega), if_neg (by omega)]⟩))))))
        · refine .inr (.inr (.inr (.inr (.inr (.inl ⟨by omega, beq_eq_false_iff_ne.2 (by omega), by rw [if_neg (by omega), if_neg (by omega), if_neg (by omega)]⟩)))))
      · refine .inr (.inr (.inr (.inr (.inr (.inr (.inr (.inr ⟨beq_eq_false_iff_ne.2 (by omega), beq_eq_false_iff_ne.2 (by omega), beq_eq_false_iff_ne.2 (by omega), by rw [if_neg (by omega), if_neg (by omega), if_neg (by omega)]⟩)))))))

set_option maxRecDepth 20000 in
set_option maxHeartbeats 2000000 in
theorem kind_any (w : World) (e : List UInt8) (hl : e.length = 8) :
    Calls Tryz.prog 13 #[.agg (rdC e)] w fun x w' => x = .returned (.int .i64 (kdX e : Nat)) ∧ Below w.heap.size w w' := by
  have c0 := rdC_nth hl (i := 0) (by omega)
  have c1 := rdC_nth hl (i := 1) (by omega)
  have c6 := rdC_nth hl (i := 6) (by omega)
  have c7 := rdC_nth hl (i := 7) (by omega)
  obtain ⟨z0, z1, z6, z7, h0, h1, h6, h7, hk⟩ := kd_split e
  rw [← h0] at c0
  rw [← h1] at c1
  rw [← h6] at c6
  rw [← h7] at c7
  generalize kdX e = K at hk ⊢
  clear h0 h1 h6 h7
  rcases hk with ⟨rfl, a, rfl⟩ | ⟨rfl, rfl, rfl⟩ | ⟨rfl, rfl, rfl, rfl, rfl⟩ | ⟨rfl, a, rfl⟩ | ⟨rfl, a, rfl⟩ | ⟨rfl, a, rfl⟩ | ⟨rfl, rfl, a, rfl⟩ | ⟨rfl, rfl, rfl, a, rfl⟩ | ⟨a, b, c, rfl⟩
  all_goals
    go_enter Tryz.func13, Tryz.ntmps13
    go_wp2_with fail
    go_quiet (fail)
  all_goals
    go_wp2
    go_ret
    exact ⟨rfl, below_drewN ((Below.refl _ _).alloc (Nat.le_refl _) _) _⟩

theorem rdC_eight (b0 b1 b2 b3 b4 b5 b6 b7 : UInt8) : rdC [b0, b1, b2, b3, b4, b5, b6, b7] = #[.int .u8 (b0.toNat : Int), .int .u8 (b1.toNat : Int), .int .u8 (b2.toNat : Int), .int .u8 (b3.toNat : Int), .int .u8 (b4.toNat : Int), .int .u8 (b5.toNat : Int), .int .u8 (b6.toNat : Int), .int .u8 (b7.toNat : Int)] := rfl

set_option maxRecDepth 20000 in
set_option maxHeartbeats 1000000 in
theorem distinguisher_any (w : World) (e : List UInt8) (hl : e.length = 8) :
    Calls Tryz.prog 42 #[.agg (rdC e)] w fun x w' => x = .returned (.agg (rdC (uns e))) ∧ Below w.heap.size w w' := by
  obtain ⟨b0, b1, b2, b3, b4, b5, b6, b7, rfl⟩ := eight hl
  have hu : uns [b0, b1, b2, b3, b4, b5, b6, b7] = [0, b0, b2, b3, b4, b5, b6, b7] := rfl
  rw [hu, rdC_eight, rdC_eight]
  clear hl hu
  go_enter Tryz.func42, Tryz.ntmps42
  go_wp2
  refine ret_rd1 (p := 2) (bs := [0, b0, b2, b3, b4, b5, b6, b7]) rfl rfl (blk_new2 w _ _ _) rfl rfl ?_
  exact ⟨rfl, ((Below.refl _ _).alloc (Nat.le_refl _) _).alloc (by simp) _⟩

set_option maxRecDepth 20000 in
set_option maxHeartbeats 2000000 in
theorem build_any (w : World) (what : UInt8) (z : Int) (hz : (what.toNat : Int) = z) (k h l : Int) :
    Calls Tryz.prog 61 #[.int .u8 z, .int .i64 k, .int .i64 h, .int .i64 l] w fun e w' => e = .returned (.tuple #[.agg (rdC (cmB what k h l)), .int .i64 (mkE k h l)]) ∧ Below w.heap.size w w' := by
  subst hz
  have HZ := hide rdC_zero
  have B0 : Hid (Blk (w.alloc (.cells #[.int .u8 0, .int .u8 0, .int .u8 0, .int .u8 0, .int .u8 0, .int .u8 0, .int .u8 0, .int .u8 0] 23)) w.heap.size 23 #[.int .u8 0, .int .u8 0, .int .u8 0, .int .u8 0, .int .u8 0, .int .u8 0, .int .u8 0, .int .u8 0]) := Blk.new w _ _
  have W0 : Hid (Below w.heap.size w (w.alloc (.cells #[.int .u8 0, .int .u8 0, .int .u8 0, .int .u8 0, .int .u8 0, .int .u8 0, .int .u8 0, .int .u8 0] 23))) := (Below.refl _ _).alloc (Nat.le_refl _) _
  obtain ⟨b0, b1, b2, b3, b4, b5, b6, b7, hm⟩ := eight (mkB_len k h l)
  have HM := hide hm
  by_cases he : mkE k h l = 0
  · have hv : cmB what k h l = [b1, what, b2, b3, b4, b5, b6, b7] := by unfold cmB; rw [if_pos he, hm]; rfl
    rw [hv, he]
    have HE := hide he
    have HL : Hid ([b1, what, b2, b3, b4, b5, b6, b7].length = 8) := hide rfl
    clear he hv hm
    go_enter Tryz.func61, Tryz.ntmps61
    go_wp2_with fail
    refine (make_any _ k h l).mono ?_
    rintro e w1 ⟨rfl, hb1⟩
    rw [HM.out, HE.out, rdC_eight]
    have B1 := hide (B0.out.over hb1)
    have W1 := hide (below_step W0.out hb1 (Nat.le_refl _))
    clear hb1
    go_wp2_with (refine wpList_store_ext rfl (.tmp 8) (.tmp 30) rfl w.heap.size rfl (bs := [b1, what, b2, b3, b4, b5, b6, b7]) rfl HL.out ((B1.out.alloc _).alloc _) rfl ?_; intro w4 hb4 hg4; have HB4 := hide hb4; have HG4 := hide hg4; clear hb4 hg4)
    refine ret_ext2 (p := 8) (q := 9) (v := .int .i64 0) rfl rfl rfl HB4.out HL.out rfl ?_
    refine ⟨rfl, ?_⟩
    refine Below.grown (Below.alloc (Below.alloc W1.out W1.out.size _) ?_ _) HG4.out ?_ (by simp)
    all_goals (have := W1.out.size; simp; omega)
  · have hv : cmB what k h l = zero8 := by unfold cmB; rw [if_neg he]
    obtain ⟨E, hE⟩ : ∃ E, mkE k h l = E := ⟨_, rfl⟩
    rw [hE] at he
    rw [hv, hE]
    have HE := hide hE
    have hne : (E != 0) = true := by simpa using he
    clear he hv hm hE
    go_enter Tryz.func61, Tryz.ntmps61
    go_wp2_with fail
    refine (make_any _ k h l).mono ?_
    rintro e w1 ⟨rfl, hb1⟩
    rw [HM.out, HE.out, rdC_eight]
    have B1 := hide (B0.out.over hb1)
    have W1 := hide (below_step W0.out hb1 (Nat.le_refl _))
    clear hb1
    go_wp2_with (refine wpList_store_ext rfl (.tmp 8) (.tmp 22) rfl w.heap.size rfl (bs := zero8) (congrArg Value.agg HZ.out).symm zero8_len (B1.out.alloc _) rfl ?_; intro w4 hb4 hg4; have HB4 := hide hb4; have HG4 := hide hg4; clear hb4 hg4)
    refine ret_ext2 (p := 8) (q := 9) (v := .int .i64 E) rfl rfl rfl HB4.out zero8_len rfl ?_
    refine ⟨rfl, ?_⟩
    refine Below.grown (Below.alloc W1.out W1.out.size _) HG4.out ?_ (by simp)
    all_goals (have := W1.out.size; simp; omega)

set_option maxRecDepth 20000 in
set_option maxHeartbeats 1000000 in
theorem target_any (w : World) (k h l : Int) :
    Calls Tryz.prog 31 #[.int .i64 k, .int .i64 h, .int .i64 l] w fun e w' => e = .returned (.tuple #[.agg (rdC (cmB 2 k h l)), .int .i64 (mkE k h l)]) ∧ Below w.heap.size w w' := by
  have B0 : Hid (Blk (w.alloc (.cells #[.int .u8 0, .int .u8 0, .int .u8 0, .int .u8 0, .int .u8 0, .int .u8 0, .int .u8 0, .int .u8 0] 23)) w.heap.size 23 #[.int .u8 0, .int .u8 0, .int .u8 0, .int .u8 0, .int .u8 0, .int .u8 0, .int .u8 0, .int .u8 0]) := Blk.new w _ _
  have W0 : Hid (Below w.heap.size w (w.alloc (.cells #[.int .u8 0, .int .u8 0, .int .u8 0, .int .u8 0, .int .u8 0, .int .u8 0, .int .u8 0, .int .u8 0] 23))) := (Below.refl _ _).alloc (Nat.le_refl _) _
  have HL := hide (cmB_len 2 k h l)
  obtain ⟨X, HX⟩ : ∃ X, Hid (cmB 2 k h l = X) := ⟨_, rfl⟩
  obtain ⟨E, HE⟩ : ∃ E, Hid (mkE k h l = E) := ⟨_, rfl⟩
  rw [HX.out] at HL
  rw [HX.out, HE.out]
  go_enter Tryz.func31, Tryz.ntmps31
  go_wp2_with fail
  refine (build_any _ 2 2 rfl k h l).mono ?_
  rintro e w1 ⟨rfl, hb1⟩
  have B1 := hide (B0.out.over hb1)
  have W1 := hide (below_step W0.out hb1 (Nat.le_refl _))
  clear hb1
  rw [HX.out, HE.out]
  go_wp2_with (refine wpList_store_ext rfl (.tmp 6) (.tmp 12) rfl w.heap.size rfl (bs := X) rfl HL.out B1.out rfl ?_; intro w4 hb4 hg4; have HB4 := hide hb4; have HG4 := hide hg4; clear hb4 hg4)
  refine ret_ext2 (p := 6) (q := 7) (v := .int .i64 E) rfl rfl rfl HB4.out HL.out rfl ?_
  exact ⟨rfl, W1.out.grown HG4.out W1.out.size (by simp)⟩

set_option maxRecDepth 20000 in
set_option maxHeartbeats 1000000 in
theorem source_any (w : World) (n : Int) :
    Calls Tryz.prog 30 #[.int .i64 n] w fun e w' => e = .returned (.tuple #[.agg (rdC (cmB 9 2 n 0)), .int .i64 (mkE 2 n 0)]) ∧ Below w.heap.size w w' := by
  have B0 : Hid (Blk (w.alloc (.cells #[.int .u8 0, .int .u8 0, .int .u8 0, .int .u8 0, .int .u8 0, .int .u8 0, .int .u8 0, .int .u8 0] 23)) w.heap.size 23 #[.int .u8 0, .int .u8 0, .int .u8 0, .int .u8 0, .int .u8 0, .int .u8 0, .int .u8 0, .int .u8 0]) := Blk.new w _ _
  have W0 : Hid (Below w.heap.size w (w.alloc (.cells #[.int .u8 0, .int .u8 0, .int .u8 0, .int .u8 0, .int .u8 0, .int .u8 0, .int .u8 0, .int .u8 0] 23))) := (Below.refl _ _).alloc (Nat.le_refl _) _
  have HL := hide (cmB_len 9 2 n 0)
  obtain ⟨X, HX⟩ : ∃ X, Hid (cmB 9 2 n 0 = X) := ⟨_, rfl⟩
  obtain ⟨E, HE⟩ : ∃ E, Hid (mkE 2 n 0 = E) := ⟨_, rfl⟩
  rw [HX.out] at HL
  rw [HX.out, HE.out]
  go_enter Tryz.func30, Tryz.ntmps30
  go_wp2_with fail
  refine (build_any _ 9 9 rfl 2 n 0).mono ?_
  rintro e w1 ⟨rfl, hb1⟩
  have B1 := hide (B0.out.over hb1)
  have W1 := hide (below_step W0.out hb1 (Nat.le_refl _))
  clear hb1
  rw [HX.out, HE.out]
  go_wp2_with (refine wpList_store_ext rfl (.tmp 2) (.tmp 6) rfl w.heap.size rfl (bs := X) rfl HL.out B1.out rfl ?_; intro w4 hb4 hg4; have HB4 := hide hb4; have HG4 := hide hg4; clear hb4 hg4)
  refine ret_ext2 (p := 2) (q := 3) (v := .int .i64 E) rfl rfl rfl HB4.out HL.out rfl ?_
  exact ⟨rfl, W1.out.grown HG4.out W1.out.size (by simp)⟩

set_option maxRecDepth 20000 in
set_option maxHeartbeats 2000000 in
theorem as_any (w : World) (e : List UInt8) (hl : e.length = 8) :
    Calls Tryz.prog 9 #[.agg (rdC e)] w fun x w' => x = .returned (.tuple #[.int .i64 (srcA e : Nat), .bool (isSrc e)]) ∧ Below w.heap.size w w' := by
  have B0 : Hid (Blk (w.alloc (.cells (rdC e) 23)) w.heap.size 23 (rdC e)) := Blk.new w _ _
  have W0 : Hid (Below w.heap.size w (w.alloc (.cells (rdC e) 23))) := (Below.refl _ _).alloc (Nat.le_refl _) _
  have HL := hide hl
  unfold srcA isSrc
  have HN : Hid (numVal (e.drop 2) 4 = asX e) := hide (by
    have h := (big_put (bs := e.drop 2) (k := 4) (by decide) (by simp; omega)).1
    exact h)
  by_cases hk : kdX e = 3
  · rw [if_pos hk, decide_eq_true hk]
    have HK := hide hk
    clear hl hk
    go_enter Tryz.func9, Tryz.ntmps9
    go_wp2_with (with_reducible refine wpList_load_ext rfl (.tmp 1) rfl w.heap.size rfl B0.out HL.out ?_)
    refine (kind_any _ e HL.out).mono ?_
    rintro x w1 ⟨rfl, hb1⟩
    rw [HK.out]
    have W1 := hide (below_step W0.out hb1 (Nat.le_refl _))
    have HA : Hid (At w1 w.heap.size (w.heap.size + 1) (some ⟨w.heap.size, 2, none⟩) 6 (e.drop 2)) := (At.rd (B0.out.over hb1) HL.out).tail (k := 2) (c := 8) (by omega) (by omega)
    have hz1 := hb1.size
    clear hb1
    go_wp2_with fail
    refine (open_any _ _ _ _ 6 6 _ HA.out (by simpa using hz1) (by decide)).mono ?_
    rintro x w2 ⟨g, rfl, hg, hrd2, hb2⟩
    have R2 := hide hrd2
    have W2 := hide (below_step W1.out hb2 (Nat.le_refl _))
    have hgl : w.heap.size ≤ g := Nat.le_trans W1.out.size hg
    clear hrd2 hb2 hg
    go_wp2_with fail
    refine (num_any _ _ g _ false R2.out 4 (WalkArith.wf_i64 (by decide))).mono ?_
    rintro x w3 ⟨rfl, hrd3, hg3⟩
    rw [HN.out]
    have W3 := hide (W2.out.grown hg3 W2.out.size (by intro q hq; injection hq with hq; omega))
    clear hrd3 hg3
    go_wp2_with fail
    go_ret2
    exact ⟨rfl, W3.out⟩
  · rw [if_neg hk, decide_eq_false hk]
    obtain ⟨K, hK⟩ : ∃ K : Int, (kdX e : Int) = K := ⟨_, rfl⟩
    have hne : (K != 3) = true := by simp; omega
    have HK := hide hK
    clear hl hk hK
    go_enter Tryz.func9, Tryz.ntmps9
    go_wp2_with (with_reducible refine wpList_load_ext rfl (.tmp 1) rfl w.heap.size rfl B0.out HL.out ?_)
    refine (kind_any _ e HL.out).mono ?_
    rintro x w1 ⟨rfl, hb1⟩
    rw [HK.out]
    have W1 := hide (below_step W0.out hb1 (Nat.le_refl _))
    clear hb1
    go_wp2_with fail
    go_ret2
    exact ⟨rfl, W1.out⟩

set_option maxRecDepth 20000 in
set_option maxHeartbeats 3000000 in
theorem import_any (w : World) (s : Int) (bs : List UInt8) (hl : bs.length = 16) (n : Int) :
    Calls Tryz.prog 29 #[.agg (addrC s bs), .int .i64 n] w fun e w' => e = .returned (.tuple #[.agg (rdC (impB s bs n)), .int .i64 (impE s bs n)]) ∧ Below w.heap.size w w' := by
  have HZ := hide rdC_zero
  have HL := hide hl
  have A0 : Hid (Blk ((w.alloc (.cells (addrC s bs) 27)).alloc (.cells #[.int .u8 0, .int .u8 0, .int .u8 0, .int .u8 0, .int .u8 0, .int .u8 0, .int .u8 0, .int .u8 0] 23)) w.heap.size 27 (addrC s bs)) := (Blk.new w _ _).alloc _
  have B0 : Hid (Blk ((w.alloc (.cells (addrC s bs) 27)).alloc (.cells #[.int .u8 0, .int .u8 0, .int .u8 0, .int .u8 0, .int .u8 0, .int .u8 0, .int .u8 0, .int .u8 0] 23)) (w.heap.size + 1) 23 #[.int .u8 0, .int .u8 0, .int .u8 0, .int .u8 0, .int .u8 0, .int .u8 0, .int .u8 0, .int .u8 0]) := blk_new2 w _ _ _
  have W0 : Hid (Below w.heap.size w ((w.alloc (.cells (addrC s bs) 27)).alloc (.cells #[.int .u8 0, .int .u8 0, .int .u8 0, .int .u8 0, .int .u8 0, .int .u8 0, .int .u8 0, .int .u8 0] 23))) := ((Below.refl _ _).alloc (Nat.le_refl _) _).alloc (by simp) _
  by_cases hr : rightA s bs = true
  · by_cases hs : s = 4
    · subst hs
      have hv : impB 4 bs n = cmB 11 1 (big (bs.take 4) : Nat) n := by unfold impB; rw [if_pos ⟨hr, rfl⟩]
      have hv2 : impE 4 bs n = mkE 1 (big (bs.take 4) : Nat) n := by unfold impE; rw [if_pos ⟨hr, rfl⟩]
      have hb4 : bytesA 4 bs = bs.take 4 := by unfold bytesA; rw [if_pos hr]; rfl
      have h4 : (bs.take 4).length = 4 := by simp [hl]
      have hN : numVal (bs.take 4) 4 = big (bs.take 4) := by
        have h := (big_put (bs := bs.take 4) (k := 4) (by decide) (by omega)).1
        simpa [List.take_take] using h
      obtain ⟨y, hy⟩ : ∃ y, bs.take 4 = y := ⟨_, rfl⟩
      rw [hy] at hv hv2 hb4 h4 hN
      rw [hv, hv2]
      obtain ⟨G, hG⟩ : ∃ G, big y = G := ⟨_, rfl⟩
      rw [hG] at hN ⊢
      have HN := hide hN
      have HB4 := hide hb4
      have H4 := hide h4
      have HR := hide hr
      have HCL := hide (cmB_len 11 1 (G : Nat) n)
      obtain ⟨X, HX⟩ : ∃ X, Hid (cmB 11 1 (G : Nat) n = X) := ⟨_, rfl⟩
      obtain ⟨E, HE⟩ : ∃ E, Hid (mkE 1 (G : Nat) n = E) := ⟨_, rfl⟩
      rw [HX.out] at HCL
      rw [HX.out, HE.out]
      clear hl hr hv hv2 hb4 h4 hN hy hG
      go_enter Tryz.func29, Tryz.ntmps29
      go_wp2_with (with_reducible refine wpList_load_addr rfl (.tmp 2) rfl w.heap.size rfl A0.out HL.out ?_)
      refine (right_any _ 4 bs HL.out).mono ?_
      rintro e w1 ⟨rfl, hb1⟩
      rw [HR.out]
      have A1 := hide (A0.out.over hb1)
      have B1 := hide (B0.out.over hb1)
      have W1 := hide (below_step W0.out hb1 (Nat.le_refl _))
      have k1 : w1.cell? ⟨w.heap.size, 0, none⟩ = some (.int .i64 4) := by rw [A1.out.cell]; exact addrC_0 4 bs
      clear hb1
      go_wp2_with (with_reducible refine wpList_load_addr rfl (.tmp 2) rfl w.heap.size rfl A1.out HL.out ?_)
      refine (bytes_any _ 4 bs HL.out).mono ?_
      rintro e w2 ⟨v2, rfl, hown2, hb2⟩
      rw [HB4.out, H4.out] at hown2
      obtain ⟨A2, c2, rfl, _, _⟩ := own_shape hown2
      have HA2 := hide (At.own hown2)
      have B2 := hide (B1.out.over hb2)
      have W2 := hide (below_step W1.out hb2 (Nat.le_refl _))
      clear hown2 hb2 k1
      go_wp2_with fail
      refine (open_any w2 _ _ A2 4 c2 y HA2.out (Nat.le_refl _) (by decide)).mono ?_
      rintro e w3 ⟨g, rfl, hg, hrd3, hb3⟩
      have R3 := hide hrd3
      have hgl : w.heap.size + 1 < g := by have h1 := W2.out.size; have h2 := B2.out.lt; omega
      have B3 := hide (B2.out.over hb3)
      have W3 := hide (below_step W2.out hb3 (Nat.le_refl _))
      clear hrd3 hb3 hg
      go_wp2_with fail
      refine (num_any _ _ g _ false R3.out 4 (WalkArith.wf_i64 (by decide))).mono ?_
      rintro e w4 ⟨rfl, hrd4, hg4⟩
      rw [HN.out]
      have B4 := hide (B3.out.grown hg4 (by intro e; injection e with e; omega))
      have W4 := hide (W3.out.grown hg4 W3.out.size (by intro q hq; injection hq with hq; omega))
      clear hrd4 hg4
      go_wp2_with fail
      refine (build_any _ 11 11 rfl 1 (G : Nat) n).mono ?_
      rintro e w5 ⟨rfl, hb5⟩
      rw [HX.out, HE.out]
      have B5 := hide (B4.out.over hb5)
      have W5 := hide (below_step W4.out hb5 (Nat.le_refl _))
      clear hb5
      go_wp2_with (refine wpList_store_ext rfl (.tmp 4) (.tmp 21) rfl (w.heap.size + 1) rfl (bs := X) rfl HCL.out B5.out rfl ?_; intro w6 hb6 hg6; have HB6 := hide hb6; have HG6 := hide hg6; clear hb6 hg6)
      refine ret_ext2 (p := 4) (q := 5) (v := .int .i64 E) rfl rfl rfl HB6.out HCL.out rfl ?_
      exact ⟨rfl, W5.out.grown HG6.out W5.out.size (by simp)⟩
    · have hv : impB s bs n = zero8 := by unfold impB; rw [if_neg (fun h => hs h.2)]
      have hv2 : impE s bs n = 1 := by unfold impE; rw [if_neg (fun h => hs h.2)]
      rw [hv, hv2]
      have HR := hide hr
      have hne : (s != 4) = true := by simpa using hs
      clear hl hr hv hv2 hs
      go_enter Tryz.func29, Tryz.ntmps29
      go_wp2_with (with_reducible refine wpList_load_addr rfl (.tmp 2) rfl w.heap.size rfl A0.out HL.out ?_)
      refine (right_any _ s bs HL.out).mono ?_
      rintro e w1 ⟨rfl, hb1⟩
      rw [HR.out]
      have A1 := hide (A0.out.over hb1)
      have B1 := hide (B0.out.over hb1)
      have W1 := hide (below_step W0.out hb1 (Nat.le_refl _))
      have k1 : w1.cell? ⟨w.heap.size, 0, none⟩ = some (.int .i64 s) := by rw [A1.out.cell]; exact addrC_0 s bs
      clear hb1
      go_wp2_with (refine wpList_store_ext rfl (.tmp 4) (.tmp 14) rfl (w.heap.size + 1) rfl (bs := zero8) (congrArg Value.agg HZ.out).symm zero8_len B1.out rfl ?_; intro w6 hb6 hg6; have HB6 := hide hb6; have HG6 := hide hg6; clear hb6 hg6)
      refine ret_ext2 (p := 4) (q := 5) (v := .int .i64 1) rfl rfl rfl HB6.out zero8_len rfl ?_
      exact ⟨rfl, W1.out.grown HG6.out W1.out.size (by simp)⟩
  · have hv : impB s bs n = zero8 := by unfold impB; rw [if_neg (fun h => hr h.1)]
    have hv2 : impE s bs n = 1 := by unfold impE; rw [if_neg (fun h => hr h.1)]
    rw [hv, hv2]
    have hr' : rightA s bs = false := by simpa using hr
    have HR := hide hr'
    clear hl hr hr' hv hv2
    go_enter Tryz.func29, Tryz.ntmps29
    go_wp2_with (with_reducible refine wpList_load_addr rfl (.tmp 2) rfl w.heap.size rfl A0.out HL.out ?_)
    refine (right_any _ s bs HL.out).mono ?_
    rintro e w1 ⟨rfl, hb1⟩
    rw [HR.out]
    have B1 := hide (B0.out.over hb1)
    have W1 := hide (below_step W0.out hb1 (Nat.le_refl _))
    clear hb1
    go_wp2_with (refine wpList_store_ext rfl (.tmp 4) (.tmp 14) rfl (w.heap.size + 1) rfl (bs := zero8) (congrArg Value.agg HZ.out).symm zero8_len B1.out rfl ?_; intro w6 hb6 hg6; have HB6 := hide hb6; have HG6 := hide hg6; clear hb6 hg6)
    refine ret_ext2 (p := 4) (q := 5) (v := .int .i64 1) rfl rfl rfl HB6.out zero8_len rfl ?_
    exact ⟨rfl, W1.out.grown HG6.out W1.out.size (by simp)⟩
end Go.Proofs.YtfpidnckmdiieaaGreatDoor
namespace Go.Proofs.YtfpidnckmdiieaaGreatDoor
open Go.RowKit
set_option linter.unusedVariables false
set_option linter.unusedSimpArgs false

theorem exec_store_addr {o : Oper} {a : Act} {w : World} (x y : Operand) (ho : o.op = .store 27 x y)
    (g : Nat) (hx : a.eval x = .pointer (some ⟨g, 0, none⟩)) {s : Int} {bs : List UInt8} (hy : a.eval y = .agg (addrC s bs)) (hl : bs.length = 16) {t : TypeId} {old : Array Value} (h : Blk w g t old) (hold : old.size = 17) :
    (execOp a.eval o).run Tryz.prog w = .ok .skip (w.setRow g (addrC s bs)) := by
  have hi : (Tryz.prog.info? 27).map (·.size) = some (addrC s bs).size := by rw [addrC_size s hl]; kernel_rfl
  unfold execOp
  simp only [ho, hx, hy, Instr.storeAt, Instr.sureAddr, Sem.run_bind, Sem.run_pure, Result.andThen_ok, run_storeVar_row w g t 27 old (addrC s bs) h hi (by rw [addrC_size s hl, hold]) (addrC_one s bs)]
theorem exec_load_addr2 {o : Oper} {a : Act} {w : World} (x : Operand) (ho : o.op = .load 27 x) (g : Nat) (hx : a.eval x = .pointer (some ⟨g, 0, none⟩)) {t : TypeId} {s : Int} {bs : List UInt8} (h : Blk w g t (addrC s bs)) (hl : bs.length = 16) :
    (execOp a.eval o).run Tryz.prog w = .ok (.value (.agg (addrC s bs))) w := by
  unfold execOp
  simp only [ho, hx, Instr.loadAt, Instr.sureAddr, Sem.run_bind, Sem.run_pure, Result.andThen_ok, load_addr h hl]
theorem ret_addr3 {fn : Func} {R : Ending → World → Prop} {a : Act} {w : World} {p q r : Tmp} {g : Nat} {t : TypeId} {s : Int} {bs : List UInt8} {v u : Value} (hf : fn.results = #[.cell p 27, .tmp q, .tmp r])
    (hp : a.tmps.getD p undef = .pointer (some ⟨g, 0, none⟩)) (hq : a.tmps.getD q undef = v) (hr : a.tmps.getD r undef = u) (h : Blk w g t (addrC s bs)) (hl : bs.length = 16) (hd : a.defers = []) (hR : R (.returned (.tuple #[.agg (addrC s bs), v, u])) w) :
    bodyPost Tryz.prog fn R .ret a w := by
  refine bodyPost_ret (v := .tuple #[.agg (addrC s bs), v, u]) ?_ hd hR
  have hp' : a.tmps[p]?.getD undef = .pointer (some ⟨g, 0, none⟩) := by simpa using hp
  have hq' : a.tmps[q]?.getD undef = v := by simpa using hq
  have hr' : a.tmps[r]?.getD undef = u := by simpa using hr
  simp [results, hf, hp', hq', hr', asAddr, load_addr h hl]
theorem Rd.drew {w : World} {lo g : Nat} {bs : List UInt8} {bad : Bool} (h : Rd w lo g bs bad) : Rd w.drew lo g bs bad := h
/-- Importer, on its way: the address that was read, the one that is handed back -/
def Impo (w x : World) (g h : Nat) (B : List UInt8) : Prop := Blk x g 27 (addrC 4 B) ∧ (∃ t old, old.size = 17 ∧ Blk x h t old) ∧ Below w.heap.size w x
section
variable {w x y : World} {g h : Nat} {B : List UInt8}
theorem Impo.a (k : Impo w x g h B) : Blk x g 27 (addrC 4 B) := k.1
theorem Impo.bel (k : Impo w x g h B) : Below w.heap.size w x := k.2.2
theorem Impo.drew (k : Impo w x g h B) : Impo w x.drew g h B := ⟨k.1.drew, k.2.1, below_drew k.2.2⟩
theorem Impo.set (k : Impo w x g h B) (hl : B.length = 16) (hne : g ≠ h) (hw : w.heap.size ≤ h) : Impo w (x.setRow h (addrC 4 B)) g h B := by
  obtain ⟨a, ⟨t, old, hs, b⟩, c⟩ := k
  have hg := grown_setRow x h (addrC 4 B)
  exact ⟨a.grown hg (by intro e; injection e with e; exact hne e), ⟨t, _, addrC_size 4 hl, b.setRow _⟩, c.grown hg c.size (by intro k hk; injection hk with hk; omega)⟩
theorem Impo.b (k : Impo w x g h B) : ∃ t old, old.size = 17 ∧ Blk x h t old := k.2.1
theorem Impo.grown (k : Impo w x g h B) {q : Nat} (hg : x.grownBy y (some q)) (h1 : g ≠ q) (h2 : h ≠ q) (h3 : w.heap.size ≤ q) : Impo w y g h B := by
  obtain ⟨a, ⟨t, old, hs, b⟩, c⟩ := k
  exact ⟨a.grown hg (by intro e; injection e with e; exact h1 e), ⟨t, old, hs, b.grown hg (by intro e; injection e with e; exact h2 e)⟩, c.grown hg c.size (by intro k hk; injection hk with hk; omega)⟩
end

set_option maxRecDepth 20000 in
set_option maxHeartbeats 3000000 in
theorem importer_any (w : World) (e : List UInt8) (hl : e.length = 8) :
    Calls Tryz.prog 7 #[.agg (rdC e)] w fun x w' => x = .returned (.tuple #[.agg (addrC (impS e) (impA e)), .int .i64 (impN e : Nat), .bool (isImp e)]) ∧ Below w.heap.size w w' := by
  have HZ := hide (addrC_zero 0)
  have HL := hide hl
  have A0 : Hid (Blk ((w.alloc (.cells (rdC e) 23)).alloc (.cells (addrC 0 zero16) 27)) w.heap.size 23 (rdC e)) := (Blk.new w _ _).alloc _
  have B0 : Hid (Blk ((w.alloc (.cells (rdC e) 23)).alloc (.cells (addrC 0 zero16) 27)) (w.heap.size + 1) 27 (addrC 0 zero16)) := blk_new2 w _ _ _
  have W0 : Hid (Below w.heap.size w ((w.alloc (.cells (rdC e) 23)).alloc (.cells (addrC 0 zero16) 27))) := ((Below.refl _ _).alloc (Nat.le_refl _) _).alloc (by simp) _
  rw [HZ.out] at A0 B0 W0
  have Z17 : Hid (#[Value.int .i64 0, .int .u8 0, .int .u8 0, .int .u8 0, .int .u8 0, .int .u8 0, .int .u8 0, .int .u8 0, .int .u8 0, .int .u8 0, .int .u8 0, .int .u8 0, .int .u8 0, .int .u8 0, .int .u8 0, .int .u8 0, .int .u8 0].size = 17) := hide rfl
  by_cases hk : kdX e = 2
  · have hv : impS e = 4 ∧ impA e = pad (adX e) ∧ impN e = noX e ∧ isImp e = true := ⟨by unfold impS; rw [if_pos hk], by unfold impA; rw [if_pos hk], by unfold impN; rw [if_pos hk], decide_eq_true hk⟩
    rw [hv.1, hv.2.1, hv.2.2.1, hv.2.2.2]
    have h4 := adX_len hl
    have hts : stepTaken (e.drop 2) 4 = adX e ∧ stepRest (e.drop 2) 4 = e.drop 6 := by
      have hb : stepB (e.drop 2) 4 = true := by unfold stepB; simp; omega
      refine ⟨?_, ?_⟩
      · unfold stepTaken; rw [if_pos hb]; rfl
      · unfold stepRest; rw [if_pos hb]; show (e.drop 2).drop 4 = _; rw [List.drop_drop]
    have hof : ofS (adX e) = 4 ∧ ofB (adX e) = pad (adX e) := by
      have hs : sizeA (((adX e).length : Nat) : Int) = true := by rw [h4]; rfl
      unfold ofS ofB
      rw [if_pos hs, if_pos hs, h4]
      exact ⟨rfl, rfl⟩
    have HN : Hid (numVal (e.drop 6) 2 = noX e) := hide (by
      have h := (big_put (bs := e.drop 6) (k := 2) (by decide) (by simp; omega)).1
      rw [List.take_of_length_le (by simp; omega)] at h
      exact h)
    have HPL : Hid ((pad (adX e)).length = 16) := hide (by unfold pad; simp [h4])
    have H4 := hide h4
    have HTS := hide hts
    have HOF := hide hof
    have HK := hide hk
    clear hl hk hv h4 hts hof
    go_enter Tryz.func7, Tryz.ntmps7
    go_wp2_with (with_reducible refine wpList_load_ext rfl (.tmp 1) rfl w.heap.size rfl A0.out HL.out ?_)
    refine (kind_any _ e HL.out).mono ?_
    rintro x w1 ⟨rfl, hb1⟩
    rw [HK.out]
    have B1 := hide (B0.out.over hb1)
    have W1 := hide (below_step W0.out hb1 (Nat.le_refl _))
    have HA : Hid (At w1 w.heap.size (w.heap.size + 1) (some ⟨w.heap.size, 2, none⟩) 6 (e.drop 2)) := (At.rd (A0.out.over hb1) HL.out).tail (k := 2) (c := 8) (by omega) (by omega)
    have hz1 := hb1.size
    clear hb1
    go_wp2_with fail
    refine (open_any _ _ _ _ 6 6 _ HA.out (by simp at hz1; omega) (by decide)).mono ?_
    rintro x w2 ⟨g, rfl, hg, hrd2, hb2⟩
    have R2 := hide hrd2
    have B2 := hide (B1.out.over hb2)
    have W2 := hide (below_step W1.out hb2 (Nat.le_refl _))
    have hgl : w.heap.size + 1 < g := by have h2 := B1.out.lt; omega
    clear hrd2 hb2 hg
    obtain ⟨_, _, _, k2⟩ := R2.out.open0
    go_wp2_with fail
    refine (take_any _ _ g _ false R2.out 4 (WalkArith.wf_i64 (by decide))).mono ?_
    rintro x w3 ⟨v3, rfl, hown3, hrd3, hg3⟩
    rw [HTS.out.1, H4.out] at hown3
    rw [HTS.out.2] at hrd3
    obtain ⟨A3, c3, rfl, _, _⟩ := own_shape hown3
    have HA3 := hide (At.own hown3)
    have R3 := hide hrd3
    have B3 := hide (B2.out.grown hg3 (by intro e; injection e with e; omega))
    have W3 := hide (W2.out.grown hg3 W2.out.size (by intro q hq; injection hq with hq; omega))
    clear hown3 hrd3 hg3 k2
    obtain ⟨_, _, _, k3⟩ := R3.out.open0
    go_wp2_with fail
    refine (of_any w3 _ _ A3 4 c3 _ HA3.out (Nat.le_refl _)).mono ?_
    rintro x w5 ⟨rfl, hb5⟩
    rw [HOF.out.1, HOF.out.2]
    have R5 := hide (R3.out.below hb5 R3.out.lt)
    have B5 := hide (B3.out.over hb5)
    have W5 := hide (below_step W3.out hb5 (Nat.le_refl _))
    have hg5 := R5.out.lt
    clear hb5 k3
    obtain ⟨_, _, _, k5⟩ := R5.out.open0
    go_wp2_with (refine wpList_store_addr rfl (.tmp 6) (.tmp 18) rfl w5.heap.size rfl rfl HPL.out (Blk.new w5 _ _) rfl ?_; intro w6 hb6 hg6; have R6 := hide ((R5.out.keep (grown_of_below ((Below.refl w5.heap.size w5).alloc (Nat.le_refl _) _) none) (by intro k hk; cases hk)).keep hg6 (by intro k hk; injection hk with hk; omega)); have S6 : Hid (Impo w w6 w5.heap.size (w.heap.size + 1) (pad (adX e))) := ⟨hb6, ⟨_, _, rfl, B5.out.stays _ hg6 (Nat.le_refl _)⟩, below_made W5.out (Nat.le_refl _) _ hg6 (Nat.le_refl _)⟩; clear hb6 hg6)
    have R6 := R6.out.drew
    refine wp_region_held_drew (S := fun x => Impo w x w5.heap.size (w.heap.size + 1) (pad (adX e))) (by kernel_rfl) S6.out.drew (fun hHeld => ?_)
    refine region_take (i := 0) (v := (.agg (addrC 4 (pad (adX e))))) rfl (by kernel_rfl) (by kernel_rfl) (by kernel_rfl) (fun _ _ _ h => h) (Or.inl ⟨by rfl, ?_⟩) (by assumption) ?_
    · (intro w' hSw; exact exec_load_addr2 (.tmp 6) rfl w5.heap.size rfl hSw.a HPL.out)
    simp only [Act.put, List.setIfInBounds_toArray, List.set_cons_zero, List.set_cons_succ]
    refine region_take (i := 1) (v := ?_) rfl (by kernel_rfl) (by kernel_rfl) (by kernel_rfl) (fun _ _ _ h => h) (Or.inl ⟨by rfl, ?_⟩) (by assumption) ?_
    rotate_left
    · (intro w' hSw; (try dsimp only at hSw); go_simp <;> with_reducible rfl)
    simp only [Act.put, List.setIfInBounds_toArray, List.set_cons_zero, List.set_cons_succ]
    refine region_call (i := 2) rfl (by kernel_rfl) (by rfl) (num_any _ _ g _ _ R6 2 (WalkArith.wf_i64 (by decide))) (fun w => by kernel_rfl) ?_
    rintro x w7 ⟨rfl, hrd7, hg7⟩; rw [HN.out]; have S7 := hide (S6.out.drew.grown hg7 (by omega) (by omega) (by omega)); obtain ⟨t7, old7, hs7, b7⟩ := S7.out.b; have B7 := hide b7; clear b7 hrd7 hg7 k5
    refine ⟨_, rfl, S7.out, fun hHeld => ?_⟩
    simp only [Act.put, List.setIfInBounds_toArray, List.set_cons_zero, List.set_cons_succ]
    refine region_store (i := 3) rfl (by kernel_rfl) (by rfl) (exec_store_addr (.tmp 2) (.tmp 20) rfl (w.heap.size + 1) rfl rfl HPL.out B7.out hs7) (S7.out.set HPL.out (by omega) (by omega)) (fun hHeld => ?_)
    simp only [Act.put, List.setIfInBounds_toArray, List.set_cons_zero, List.set_cons_succ]
    refine region_take (i := 4) (v := ?_) rfl (by kernel_rfl) (by kernel_rfl) (by kernel_rfl) (fun _ _ _ h => h) (Or.inl ⟨by rfl, ?_⟩) (by assumption) ?_
    rotate_left
    · (intro w' hSw; (try dsimp only at hSw); go_simp <;> with_reducible rfl)
    simp only [Act.put, List.setIfInBounds_toArray, List.set_cons_zero, List.set_cons_succ]
    refine region_take (i := 5) (v := ?_) rfl (by kernel_rfl) (by kernel_rfl) (by kernel_rfl) (fun _ _ _ h => h) (Or.inl ⟨by rfl, ?_⟩) (by assumption) ?_
    rotate_left
    · (intro w' hSw; (try dsimp only at hSw); go_simp <;> with_reducible rfl)
    simp only [Act.put, List.setIfInBounds_toArray, List.set_cons_zero, List.set_cons_succ]
    refine wpAnyH_done (by kernel_rfl) ?_ _
    go_wp2_with fail
    refine ret_addr3 (p := 2) (q := 3) (r := 4) rfl rfl rfl rfl (B7.out.setRow _) HPL.out rfl ?_
    exact ⟨rfl, hHeld.bel⟩
  · have hv : impS e = 0 ∧ impA e = zero16 ∧ impN e = 0 ∧ isImp e = false := ⟨by unfold impS; rw [if_neg hk], by unfold impA; rw [if_neg hk], by unfold impN; rw [if_neg hk], decide_eq_false hk⟩
    rw [hv.1, hv.2.1, hv.2.2.1, hv.2.2.2]
    obtain ⟨K, hK⟩ : ∃ K : Int, (kdX e : Int) = K := ⟨_, rfl⟩
    have hne : (K != 2) = true := by simp; omega
    have HK := hide hK
    clear hl hk hv hK
    go_enter Tryz.func7, Tryz.ntmps7
    go_wp2_with (with_reducible refine wpList_load_ext rfl (.tmp 1) rfl w.heap.size rfl A0.out HL.out ?_)
    refine (kind_any _ e HL.out).mono ?_
    rintro x w1 ⟨rfl, hb1⟩
    rw [HK.out]
    have B1 := hide (B0.out.over hb1)
    have W1 := hide (below_step W0.out hb1 (Nat.le_refl _))
    clear hb1
    go_wp2_with (refine wpList_store_addr rfl (.tmp 2) (.tmp 11) rfl (w.heap.size + 1) rfl (s := 0) (bs := zero16) (congrArg Value.agg HZ.out).symm zero16_len B1.out rfl ?_; intro w6 hb6 hg6; have HB6 := hide hb6; have HG6 := hide hg6; clear hb6 hg6)
    refine ret_addr3 (p := 2) (q := 3) (r := 4) rfl rfl rfl rfl HB6.out zero16_len rfl ?_
    exact ⟨rfl, W1.out.grown HG6.out W1.out.size (by simp)⟩

theorem comjoin_any (w : World) (base : Nat) (A : Option Addr) (n c : Nat) (xs : List (List UInt8)) (hown : w.ownsRow base 9 1 (.slice A n c) n (svs xs)) (hn : n ≤ 1000000) (B : Nat) (hB : B + 1 ≤ 1000) (hx : ∀ x ∈ xs, x.length ≤ B) :
    Calls Tryz.prog 40 #[.slice A n c] w fun e w' => e = .returned (.string ⟨(Lib.join xs [58]).toArray⟩) ∧ Below w.heap.size w w' := by
  have hj := joined_any w base A n c xs [58] hown hn B hB hx
  have HJ := hide hj
  clear hj hown hx
  go_enter Tryz.func40, Tryz.ntmps40
  go_wp2_with fail
  refine HJ.out.mono ?_
  rintro e w1 ⟨rfl, hb1⟩
  go_wp2_with fail
  go_ret
  exact ⟨rfl, hb1⟩
theorem join2 (x y : List UInt8) : Lib.join [x, y] [58] = x ++ 58 :: y := by rw [join_two, Lib.join_one]; rfl
theorem join3 (x y z : List UInt8) : Lib.join [x, y, z] [58] = x ++ 58 :: (y ++ 58 :: z) := by rw [join_three]; rfl
theorem adX_text {e : List UInt8} (hl : e.length = 8) : (textA 4 (pad (adX e))).length ≤ 16 := by
  have hr : rightA 4 (pad (adX e)) = true := by
    have := right_four (big (adX e))
    rwa [be_of_big (adX_len hl)] at this
  rw [textA_four hr]
  unfold text4
  have := join_len [46] 3 (((pad (adX e)).take 4).map fun b => numeral 10 b.toNat) (by
    intro x hx
    obtain ⟨b, _, rfl⟩ := List.mem_map.1 hx
    exact numeral_len (by decide) 2 b.toNat (by have := b.toNat_lt; omega))
  simp only [List.length_map, List.length_take, List.length_singleton] at this
  omega

set_option maxRecDepth 20000 in
set_option maxHeartbeats 3000000 in
theorem comtext_1 (w : World) (e : List UInt8) (hl : e.length = 8) (hg : Glob w) (hk : kdX e = 1) :
    Calls Tryz.prog 15 #[.agg (rdC e)] w fun x w' => x = .returned (.string ⟨(textX e).toArray⟩) ∧ Below w.heap.size w w' := by
  have B0 : Hid (Blk (w.alloc (.cells (rdC e) 23)) w.heap.size 23 (rdC e)) := Blk.new w _ _
  have W0 : Hid (Below w.heap.size w (w.alloc (.cells (rdC e) 23))) := (Below.refl _ _).alloc (Nat.le_refl _) _
  have HL := hide hl
  have HG := hide hg
  have hv : textX e = Lib.join [wTarget, textR (uns e)] [58] := by unfold textX; rw [if_pos hk, join2]
  rw [hv]
  have HU := hide (uns_len hl)
  have HLEN : Hid (∀ x ∈ [wTarget, textR (uns e)], x.length ≤ 100) := by
    intro x hx
    simp only [List.mem_cons, List.not_mem_nil, or_false] at hx
    rcases hx with rfl | rfl
    · decide
    · have := textR_len (uns_len hl); omega
  have HK := hide hk
  clear hl hg hk hv
  go_enter Tryz.func15, Tryz.ntmps15
  go_wp2_with (with_reducible refine wpList_load_ext rfl (.tmp 1) rfl w.heap.size rfl B0.out HL.out ?_)
  refine (kind_any _ e HL.out).mono ?_
  rintro x w1 ⟨rfl, hb1⟩
  rw [HK.out]
  have B1 := hide (B0.out.over hb1)
  have W1 := hide (below_step W0.out hb1 (Nat.le_refl _))
  have hz1 := hb1.size
  clear hb1
  go_wp2_with (with_reducible refine wpList_load_ext rfl (.tmp 1) rfl w.heap.size rfl B1.out HL.out ?_)
  refine (distinguisher_any _ e HL.out).mono ?_
  rintro x w2 ⟨rfl, hb2⟩
  have W2 := hide (below_step W1.out hb2 (Nat.le_refl _))
  clear hb2
  go_wp2_with fail
  refine (rdtext_any w2 _ HU.out (HG.out.below W2.out)).mono ?_
  rintro x w3 ⟨rfl, hb3⟩
  have W3 := hide (below_step W2.out hb3 (Nat.le_refl _))
  clear hb3
  have HO : Hid ((w3.alloc (.cells (svs [wTarget, textR (uns e)]).toArray 9)).ownsRow 0 9 1 (.slice (some ⟨w3.heap.size, 0, none⟩) 2 2) 2 (svs [wTarget, textR (uns e)])) :=
    own_of_blk (Blk.new w3 _ _) (Nat.zero_le _) (Nat.le_refl _) (by unfold maxLen; decide) rfl rfl
  go_wp2_with fail
  refine (comjoin_any _ 0 _ 2 2 _ HO.out (by decide) 100 (by decide) HLEN.out).mono ?_
  rintro x w4 ⟨rfl, hb4⟩
  go_wp2_with fail
  go_ret
  exact ⟨rfl, (W3.out.alloc W3.out.size _).trans (hb4.mono (by have := W3.out.size; simp; omega))⟩

set_option maxRecDepth 20000 in
set_option maxHeartbeats 3000000 in
theorem comtext_3 (w : World) (e : List UInt8) (hl : e.length = 8) (hg : Glob w) (hk : kdX e = 3) :
    Calls Tryz.prog 15 #[.agg (rdC e)] w fun x w' => x = .returned (.string ⟨(textX e).toArray⟩) ∧ Below w.heap.size w w' := by
  have B0 : Hid (Blk (w.alloc (.cells (rdC e) 23)) w.heap.size 23 (rdC e)) := Blk.new w _ _
  have W0 : Hid (Below w.heap.size w (w.alloc (.cells (rdC e) 23))) := (Below.refl _ _).alloc (Nat.le_refl _) _
  have HL := hide hl
  have HG := hide hg
  have hv : textX e = Lib.join [wSource, numeral 10 (asX e)] [58] := by unfold textX; rw [if_neg (by omega), if_neg (by omega), if_pos hk, join2]
  rw [hv]
  have hsa : srcA e = asX e ∧ isSrc e = true := ⟨by unfold srcA; rw [if_pos hk], decide_eq_true hk⟩
  have HSA := hide hsa
  have hlt := asX_lt e
  have HLEN : Hid (∀ x ∈ [wSource, numeral 10 (asX e)], x.length ≤ 100) := by
    intro x hx
    simp only [List.mem_cons, List.not_mem_nil, or_false] at hx
    rcases hx with rfl | rfl
    · decide
    · have := numeral_len (b := 10) (by decide) 9 (asX e) (by omega); omega
  clear hsa
  have HK := hide hk
  clear hl hg hk hv
  go_enter Tryz.func15, Tryz.ntmps15
  go_wp2_with (with_reducible refine wpList_load_ext rfl (.tmp 1) rfl w.heap.size rfl B0.out HL.out ?_)
  refine (kind_any _ e HL.out).mono ?_
  rintro x w1 ⟨rfl, hb1⟩
  rw [HK.out]
  have B1 := hide (B0.out.over hb1)
  have W1 := hide (below_step W0.out hb1 (Nat.le_refl _))
  have hz1 := hb1.size
  clear hb1
  go_wp2_with (with_reducible refine wpList_load_ext rfl (.tmp 1) rfl w.heap.size rfl B1.out HL.out ?_)
  refine (as_any _ e HL.out).mono ?_
  rintro x w2 ⟨rfl, hb2⟩
  rw [HSA.out.1]
  have W2 := hide (below_step W1.out hb2 (Nat.le_refl _))
  clear hb2
  go_wp2_with fail
  refine (itoa_any w2 (asX e) (by omega) (HG.out.below W2.out)).mono ?_
  rintro x w3 ⟨rfl, hb3⟩
  have W3 := hide (below_step W2.out hb3 (Nat.le_refl _))
  clear hb3
  have HO : Hid ((w3.alloc (.cells (svs [wSource, numeral 10 (asX e)]).toArray 9)).ownsRow 0 9 1 (.slice (some ⟨w3.heap.size, 0, none⟩) 2 2) 2 (svs [wSource, numeral 10 (asX e)])) :=
    own_of_blk (Blk.new w3 _ _) (Nat.zero_le _) (Nat.le_refl _) (by unfold maxLen; decide) rfl rfl
  go_wp2_with fail
  refine (comjoin_any _ 0 _ 2 2 _ HO.out (by decide) 100 (by decide) HLEN.out).mono ?_
  rintro x w4 ⟨rfl, hb4⟩
  go_wp2_with fail
  go_ret
  exact ⟨rfl, (W3.out.alloc W3.out.size _).trans (hb4.mono (by have := W3.out.size; simp; omega))⟩

set_option maxRecDepth 20000 in
set_option maxHeartbeats 3000000 in
theorem comtext_0 (w : World) (e : List UInt8) (hl : e.length = 8) (hg : Glob w) (hk : kdX e = 0) :
    Calls Tryz.prog 15 #[.agg (rdC e)] w fun x w' => x = .returned (.string ⟨(textX e).toArray⟩) ∧ Below w.heap.size w w' := by
  have B0 : Hid (Blk (w.alloc (.cells (rdC e) 23)) w.heap.size 23 (rdC e)) := Blk.new w _ _
  have W0 : Hid (Below w.heap.size w (w.alloc (.cells (rdC e) 23))) := (Below.refl _ _).alloc (Nat.le_refl _) _
  have HL := hide hl
  have HG := hide hg
  have hv : textX e = Lib.join [wOther, hexs e] [58] := by unfold textX; rw [if_neg (by omega), if_neg (by omega), if_neg (by omega), join2]
  rw [hv]
  have HLEN : Hid (∀ x ∈ [wOther, hexs e], x.length ≤ 100) := by
    intro x hx
    simp only [List.mem_cons, List.not_mem_nil, or_false] at hx
    rcases hx with rfl | rfl
    · decide
    · rw [hexs_len, hl]; decide
  have HK := hide hk
  clear hl hg hk hv
  go_enter Tryz.func15, Tryz.ntmps15
  go_wp2_with (with_reducible refine wpList_load_ext rfl (.tmp 1) rfl w.heap.size rfl B0.out HL.out ?_)
  refine (kind_any _ e HL.out).mono ?_
  rintro x w1 ⟨rfl, hb1⟩
  rw [HK.out]
  have B1 := hide (B0.out.over hb1)
  have W1 := hide (below_step W0.out hb1 (Nat.le_refl _))
  have hz1 := hb1.size
  clear hb1
  have HA1 := hide (At.rd B1.out HL.out)
  go_wp2_with fail
  refine (hexText_any w1 _ _ _ 8 8 e HA1.out (by simpa using hz1) (by decide)).mono ?_
  rintro x w3 ⟨rfl, hb3⟩
  have W3 := hide (below_step W1.out hb3 (Nat.le_refl _))
  clear hb3
  have HO : Hid ((w3.alloc (.cells (svs [wOther, hexs e]).toArray 9)).ownsRow 0 9 1 (.slice (some ⟨w3.heap.size, 0, none⟩) 2 2) 2 (svs [wOther, hexs e])) :=
    own_of_blk (Blk.new w3 _ _) (Nat.zero_le _) (Nat.le_refl _) (by unfold maxLen; decide) rfl rfl
  go_wp2_with fail
  refine (comjoin_any _ 0 _ 2 2 _ HO.out (by decide) 100 (by decide) HLEN.out).mono ?_
  rintro x w4 ⟨rfl, hb4⟩
  go_wp2_with fail
  go_ret
  exact ⟨rfl, (W3.out.alloc W3.out.size _).trans (hb4.mono (by have := W3.out.size; simp; omega))⟩

set_option maxRecDepth 20000 in
set_option maxHeartbeats 3000000 in
theorem comtext_2 (w : World) (e : List UInt8) (hl : e.length = 8) (hg : Glob w) (hk : kdX e = 2) :
    Calls Tryz.prog 15 #[.agg (rdC e)] w fun x w' => x = .returned (.string ⟨(textX e).toArray⟩) ∧ Below w.heap.size w w' := by
  have B0 : Hid (Blk (w.alloc (.cells (rdC e) 23)) w.heap.size 23 (rdC e)) := Blk.new w _ _
  have W0 : Hid (Below w.heap.size w (w.alloc (.cells (rdC e) 23))) := (Below.refl _ _).alloc (Nat.le_refl _) _
  have HL := hide hl
  have HG := hide hg
  have hv : textX e = Lib.join [wImport, textA 4 (pad (adX e)), numeral 10 (noX e)] [58] := by unfold textX; rw [if_neg (by omega), if_pos hk, join3]
  rw [hv]
  have hsa : impS e = 4 ∧ impA e = pad (adX e) ∧ impN e = noX e ∧ isImp e = true := ⟨by unfold impS; rw [if_pos hk], by unfold impA; rw [if_pos hk], by unfold impN; rw [if_pos hk], decide_eq_true hk⟩
  have HSA := hide hsa
  have hlt := noX_lt hl
  have HPL : Hid ((pad (adX e)).length = 16) := hide (by unfold pad; simp [adX_len hl])
  have HLEN : Hid (∀ x ∈ [wImport, textA 4 (pad (adX e)), numeral 10 (noX e)], x.length ≤ 100) := by
    intro x hx
    simp only [List.mem_cons, List.not_mem_nil, or_false] at hx
    rcases hx with rfl | rfl | rfl
    · decide
    · have := adX_text hl; omega
    · have := numeral_len (b := 10) (by decide) 4 (noX e) (by omega); omega
  clear hsa
  have HK := hide hk
  clear hl hg hk hv
  go_enter Tryz.func15, Tryz.ntmps15
  go_wp2_with (with_reducible refine wpList_load_ext rfl (.tmp 1) rfl w.heap.size rfl B0.out HL.out ?_)
  refine (kind_any _ e HL.out).mono ?_
  rintro x w1 ⟨rfl, hb1⟩
  rw [HK.out]
  have B1 := hide (B0.out.over hb1)
  have W1 := hide (below_step W0.out hb1 (Nat.le_refl _))
  have hz1 := hb1.size
  clear hb1
  go_wp2_with (with_reducible refine wpList_load_ext rfl (.tmp 1) rfl w.heap.size rfl B1.out HL.out ?_)
  refine (importer_any _ e HL.out).mono ?_
  rintro x w2 ⟨rfl, hb2⟩
  rw [HSA.out.1, HSA.out.2.1, HSA.out.2.2.1]
  have W2 := hide (below_step W1.out hb2 (Nat.le_refl _))
  clear hb2
  go_wp2_with (first
    | (refine wpList_store_addr rfl (.tmp 3) (.tmp 22) rfl w2.heap.size rfl rfl HPL.out (Blk.new w2 _ _) rfl ?_; intro w6 hb6 hg6; have B6 := hide hb6; have W6 := hide (below_made W2.out (Nat.le_refl _) _ hg6 (Nat.le_refl _)); clear hb6 hg6)
    | (with_reducible refine wpList_load_addr rfl (.tmp 3) rfl w2.heap.size rfl B6.out HPL.out ?_))
  refine (text_any w6 4 _ HPL.out (HG.out.below W6.out)).mono ?_
  rintro x w7 ⟨rfl, hb7⟩
  have W7 := hide (below_step W6.out hb7 (Nat.le_refl _))
  clear hb7
  go_wp2_with fail
  refine (itoa_any w7 (noX e) (by omega) (HG.out.below W7.out)).mono ?_
  rintro x w3 ⟨rfl, hb3⟩
  have W3 := hide (below_step W7.out hb3 (Nat.le_refl _))
  clear hb3
  have HO : Hid ((w3.alloc (.cells (svs [wImport, textA 4 (pad (adX e)), numeral 10 (noX e)]).toArray 9)).ownsRow 0 9 1 (.slice (some ⟨w3.heap.size, 0, none⟩) 3 3) 3 (svs [wImport, textA 4 (pad (adX e)), numeral 10 (noX e)])) :=
    own_of_blk (Blk.new w3 _ _) (Nat.zero_le _) (Nat.le_refl _) (by unfold maxLen; decide) rfl rfl
  go_wp2_with fail
  refine (comjoin_any _ 0 _ 3 3 _ HO.out (by decide) 100 (by decide) HLEN.out).mono ?_
  rintro x w4 ⟨rfl, hb4⟩
  go_wp2_with fail
  go_ret
  exact ⟨rfl, (W3.out.alloc W3.out.size _).trans (hb4.mono (by have := W3.out.size; simp; omega))⟩

theorem comtext_any (w : World) (e : List UInt8) (hl : e.length = 8) (hg : Glob w) :
    Calls Tryz.prog 15 #[.agg (rdC e)] w fun x w' => x = .returned (.string ⟨(textX e).toArray⟩) ∧ Below w.heap.size w w' := by
  rcases kdX_cases e with h | h | h | h
  · exact comtext_1 w e hl hg h
  · exact comtext_2 w e hl hg h
  · exact comtext_3 w e hl hg h
  · exact comtext_0 w e hl hg h
end Go.Proofs.YtfpidnckmdiieaaGreatDoor
