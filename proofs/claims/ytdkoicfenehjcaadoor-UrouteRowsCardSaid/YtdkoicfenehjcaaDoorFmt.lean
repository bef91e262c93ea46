/-
  What the library's own tables hold while a statement runs, and that they go on so. No condition.
  A number's text: what strconv.Itoa does at a byte, and strconv.FormatInt at base 16 and numbers below 65536. The one condition: the library's tables hold what its text lays.
  What join and zeros of package addr do. The one condition: the numbers are below 65536, and there are few of them.
-/
import Derived.Test.YtdkoicfenehjcaaDoorBase
import Derived.Test.YtdkoicfenehjcaaDoorShelf
import Derived.Lib.AppendIntMem
import Derived.Test.YtdkoicfenehjcaaDoorMath
namespace Go.Proofs.YtdkoicfenehjcaaDoor
open Go.RowKit
set_option linter.unusedVariables false

def tz64 : List Int := [0, 1, 56, 2, 57, 49, 28, 3, 61, 58, 42, 50, 38, 29, 17, 4, 62, 47, 59, 36, 45, 43, 51, 22, 53, 39, 33, 30, 24, 18, 12, 5, 63, 55, 48, 27, 60, 41, 37, 16, 46, 35, 44, 21, 52, 32, 23, 11, 54, 26, 40, 15, 34, 20, 31, 10, 25, 14, 19, 9, 13, 8, 7, 6]
/-- the tables that the texts lean on -/
def Glob (w : World) : Prop :=
  Lib.TabIs Tryd.prog w "internal/strconv.uint64pow10" .u64 Lib.pow10Tab ∧ Lib.TabIs Tryd.prog w "math/bits.deBruijn64tab" .u8 tz64 ∧ ∃ m, w.cell? ⟨0, 0, none⟩ = some (.int .i64 m)
theorem Glob.below {w w' : World} (h : Glob w) (hb : Below w.heap.size w w') : Glob w' := by
  obtain ⟨h1, h2, m, h3⟩ := h
  refine ⟨Lib.tabBelow_of_tabIs h1 _ hb, Lib.tabBelow_of_tabIs h2 _ hb, m, ?_⟩
  rw [hb.cell (p := ⟨0, 0, none⟩) (World.block_lt_of_cell? _ _ h3)]
  exact h3
theorem Glob.tz {w : World} (h : Glob w) : w.cell? ⟨3, 15, none⟩ = some (.int .u8 4) :=
  h.2.1.cell (by kernel_rfl) 15 (by decide)
theorem below_grow {B : Nat} {w0 w : World} (h : Below B w0 w) (hB : B ≤ w.heap.size) (k : Nat) (os : Array Obj) : Below B w0 (Go.Sort.grow (w.drewN k) os) :=
  h.trans (Lib.below_grow B w hB k os)
end Go.Proofs.YtdkoicfenehjcaaDoor
namespace Go.Proofs.YtdkoicfenehjcaaDoor
open Go.RowKit
set_option linter.unusedVariables false
set_option linter.unusedSimpArgs false

theorem itoa_any (w : World) (n : Nat) (hn : n < 9223372036854775807) (hg : Glob w) :
    Calls Tryd.prog 54 #[.int .i64 n] w fun e w' => e = .returned (.string ⟨(numeral 10 n).toArray⟩) ∧ Below w.heap.size w w' := by
  refine (Tryd.strconv_Itoa n (by omega) (by omega) w hg.1).mono fun e w' ⟨he, k, os, hw⟩ => ?_
  subst hw
  refine ⟨?_, below_grow (Below.refl _ _) (Nat.le_refl _) k os⟩
  rw [he, numeral_dec]
  unfold Lib.itoa
  rw [if_neg (by omega)]
  simp

theorem pow2_16 (w : World) : Calls Tryd.prog 118 #[.int .i64 16] w fun e w' => e = .returned (.bool true) ∧ w = w' := by
  have h : bits .and .i64 16 15 = 0 := by kernel_rfl
  go_enter Tryd.func118, Tryd.ntmps118
  go_wp2
  go_ret
  exact ⟨rfl, rfl⟩
theorem tz64_16 (w : World) (hg : Glob w) : Calls Tryd.prog 121 #[.int .u64 16] w fun e w' => e = .returned (.int .i64 4) ∧ w = w' := by
  have h : IntKind.u64.wrap (bits .and .u64 16 (IntKind.u64.wrap (-16)) * 285870213051353865) / 288230376151711744 = 15 := by kernel_rfl
  have ht := hg.tz
  clear hg
  go_enter Tryd.func121, Tryd.ntmps121
  go_wp2
  go_ret
  exact ⟨rfl, rfl⟩
theorem tz_16 (w : World) (hg : Glob w) : Calls Tryd.prog 119 #[.int .u64 16] w fun e w' => e = .returned (.int .i64 4) ∧ w = w' := by
  have HG := hide hg
  clear hg
  go_enter Tryd.func119, Tryd.ntmps119
  go_wp2_with (go_at_call 121; refine (tz64_16 _ HG.out).mono ?_; rintro e w1 ⟨rfl, rfl⟩)
  go_ret
  exact ⟨rfl, rfl⟩

/-- the signs, as the library has them -/
def allSigns : ByteArray := ⟨#[48, 49, 50, 51, 52, 53, 54, 55, 56, 57, 97, 98, 99, 100, 101, 102, 103, 104, 105, 106, 107, 108, 109, 110, 111, 112, 113, 114, 115, 116, 117, 118, 119, 120, 121, 122]⟩
theorem get_sign (j : Nat) (hj : j < 16) (h : j < allSigns.size) : allSigns[j]'h = sign j := by
  rcases (show j = 0 ∨ j = 1 ∨ j = 2 ∨ j = 3 ∨ j = 4 ∨ j = 5 ∨ j = 6 ∨ j = 7 ∨ j = 8 ∨ j = 9 ∨ j = 10 ∨ j = 11 ∨ j = 12 ∨ j = 13 ∨ j = 14 ∨ j = 15 by omega) with e | e | e | e | e | e | e | e | e | e | e | e | e | e | e | e <;> subst e <;> rfl
theorem and_15 (u : Nat) (hu : u < 65536) : bits .and .u64 (u : Int) 15 = ((u % 16 : Nat) : Int) := by
  show IntKind.u64.wrap ((BitVec.ofInt 64 (u : Int) &&& BitVec.ofInt 64 15).toNat : Int) = _
  have h1 : (BitVec.ofInt 64 (u : Int)).toNat = u := by
    rw [BitVec.ofInt_natCast, BitVec.toNat_ofNat]; exact Nat.mod_eq_of_lt (by omega)
  rw [BitVec.toNat_and, h1]
  have h2 : (BitVec.ofInt 64 15).toNat = 15 := by decide
  rw [h2, show (15 : Nat) = 2 ^ 4 - 1 from rfl, Nat.and_two_pow_sub_one_eq_mod]
  rw [IntWalk.u64_in _ (by omega)]
/-- what a round leaves -/
def Digs (w : World) (g : Nat) (k : Nat) (l : List UInt8) : Prop := l.length = k ∧ ∃ cs : Array Value, Blk w g 142 cs ∧ cs.size = 65 ∧ cs.toList.drop (65 - k) = bvs l
theorem Digs.step {w : World} {g k : Nat} {l : List UInt8} (h : Digs w g k l) (hk : k < 65) (b : UInt8) : Digs (w.setCell ⟨g, 64 - k, none⟩ (.int .u8 (b.toNat : Int))) g (k + 1) (b :: l) := by
  obtain ⟨hl, cs, hb, hs, hd⟩ := h
  refine ⟨by simp [hl], cs.setIfInBounds (64 - k) (bv b), hb.set_ (64 - k) (bv b), by simpa using hs, ?_⟩
  rw [Array.toList_setIfInBounds]
  have e : 65 - (k + 1) = 64 - k := by omega
  rw [e]
  have hlt : 64 - k < cs.toList.length := by simp [hs]; omega
  rw [List.drop_set, if_neg (by omega), Nat.sub_self]
  rw [List.drop_eq_getElem_cons hlt, List.set_cons_zero, show 64 - k + 1 = 65 - k by omega, hd]
  rfl
theorem Digs.at_ {w : World} {g k : Nat} {l : List UInt8} (h : Digs w g k l) (hk : k ≤ 65) : At w g (g + 1) (some ⟨g, 65 - k, none⟩) k l := by
  obtain ⟨hl, cs, hb, hs, hd⟩ := h
  refine ⟨hl, fun _ => ⟨_, _, rfl, Nat.le_refl _, by omega, fun j u hu => ?_⟩⟩
  rw [hb.cell]
  have : (bvs l)[j]? = some (bv u) := by simp [bvs, hu]
  rw [← hd, List.getElem?_drop] at this
  simpa using this
theorem Digs.frozen {w : World} {g k : Nat} {l : List UInt8} (h : Digs w g k l) (i : Nat) : w.frozen? ⟨g, i, none⟩ = false := by
  obtain ⟨_, cs, hb, _⟩ := h
  exact hb.frozen i
theorem Digs.lt {w : World} {g k : Nat} {l : List UInt8} (h : Digs w g k l) : g < w.heap.size := by
  obtain ⟨_, cs, hb, _⟩ := h
  exact hb.lt
theorem Digs.cell {w : World} {g k : Nat} {l : List UInt8} (h : Digs w g k l) (i : Nat) (hi : i < 65) : ∃ v, w.cell? ⟨g, i, none⟩ = some v := by
  obtain ⟨_, cs, hb, hs, _⟩ := h
  exact ⟨cs[i]'(by omega), by rw [hb.cell]; exact Array.getElem?_eq_getElem _⟩
set_option maxRecDepth 20000 in
set_option maxHeartbeats 1000000 in
theorem formatBits16 (w : World) (n : Nat) (hn : n < 65536) (hg : Glob w) :
    Calls Tryd.prog 113 #[.slice none 0 0, .int .u64 n, .int .i64 16, .bool false, .bool false] w fun e w' => e = .returned (.tuple #[.slice none 0 0, .string ⟨(numeral 16 n).toArray⟩]) ∧ Below w.heap.size w w' := by
  have HG := hide hg
  have hx := get_sign
  unfold allSigns at hx
  have HX := hide hx
  clear hg hx
  go_enter Tryd.func113, Tryd.ntmps113
  go_wp2_with (first
    | (go_at_call 118; refine (pow2_16 _).mono ?_; rintro e w1 ⟨rfl, rfl⟩)
    | (go_at_call 119; refine (tz_16 _ (HG.out.below ((Below.refl _ _).alloc (Nat.le_refl _) _))).mono ?_; rintro e w1 ⟨rfl, rfl⟩))
  have HD0 : Hid (Digs (w.alloc (.cells Tryd.zeroCells142 142)) w.heap.size 0 []) := ⟨rfl, _, Blk.new w _ _, by kernel_rfl, by kernel_rfl⟩
  go_loopw [1, 13] (fun u i wr => ∃ (k v : Nat) (l : List UInt8), (k = 0 ∧ v < 65536 ∨ k = 1 ∧ v < 4096 ∨ k = 2 ∧ v < 256 ∨ k = 3 ∧ v < 16) ∧ u = .int .u64 v ∧ i = .int .i64 (65 - k : Int) ∧ numeral 16 n = numeral 16 v ++ l ∧ Digs wr w.heap.size k l ∧ Below w.heap.size w wr) (fun u _ _ => (intOf u).toNat)
  case atStart => exact ⟨0, n, [], .inl ⟨rfl, hn⟩, rfl, rfl, by simp, HD0.out, (Below.refl _ _).alloc (Nat.le_refl _) _⟩
  case round =>
    obtain ⟨k, v, l, hkv, rfl, rfl, hnum, hdg, hbel⟩ := hrel
    have HN := hide hnum
    have HDG := hide hdg
    have HBL := hide hbel
    clear hnum hdg hbel HD0
    by_cases hge : 16 ≤ v
    · have hv : v < 65536 := by omega
      have hand := and_15 v hv
      have hsg := HX.out (v % 16) (Nat.mod_lt _ (by decide))
      have HNB := hide (numeral_big (b := 16) (by decide) hge)
      rcases hkv with ⟨rfl, hv2⟩ | ⟨rfl, hv2⟩ | ⟨rfl, hv2⟩ | ⟨rfl, hv2⟩
      all_goals first | (exfalso; omega) | skip
      case' inl =>
        obtain ⟨x0, hc0⟩ := HDG.out.cell 64 (by decide)
        have hfz := HDG.out.frozen 64
      case' inr.inl =>
        obtain ⟨x0, hc0⟩ := HDG.out.cell 63 (by decide)
        have hfz := HDG.out.frozen 63
      case' inr.inr.inl =>
        obtain ⟨x0, hc0⟩ := HDG.out.cell 62 (by decide)
        have hfz := HDG.out.frozen 62
      all_goals
        have HST := hide (HDG.out.step (by decide) (sign (v % 16)))
        go_wp2
        go_roundw
        case rel =>
          refine ⟨_ + 1, v / 16, sign (v % 16) :: l, ?_, by go_num, rfl, ?_, HST.out, below_setCell HBL.out (by simp) _⟩
          · omega
          · rw [HN.out, HNB.out, List.append_assoc]; rfl
        case measure => simp [intOf]; omega
    · have hsg := HX.out v (by omega)
      have HNB := hide (numeral_small (b := 16) (n := v) (by omega))
      rcases hkv with ⟨rfl, hv2⟩ | ⟨rfl, hv2⟩ | ⟨rfl, hv2⟩ | ⟨rfl, hv2⟩
      case' inl =>
        obtain ⟨x0, hc0⟩ := HDG.out.cell 64 (by decide)
        have hfz := HDG.out.frozen 64
      case' inr.inl =>
        obtain ⟨x0, hc0⟩ := HDG.out.cell 63 (by decide)
        have hfz := HDG.out.frozen 63
      case' inr.inr.inl =>
        obtain ⟨x0, hc0⟩ := HDG.out.cell 62 (by decide)
        have hfz := HDG.out.frozen 62
      case' inr.inr.inr =>
        obtain ⟨x0, hc0⟩ := HDG.out.cell 61 (by decide)
        have hfz := HDG.out.frozen 61
      all_goals
        have HST := hide (HDG.out.step (by decide) (sign v))
        have htx := fun c => (HST.out.at_ (by decide)).text (P := Tryd.prog) 31 5 Tryd.underlying31 Tryd.underlying5 c 9 Tryd.underlying9
        simp only [Nat.reduceSub, Nat.reduceAdd, Nat.sub_zero, Nat.zero_add] at htx
        go_wp2
        go_ret2
        refine ⟨?_, below_setCell HBL.out (by simp) _⟩
        rw [HN.out, HNB.out]
        rfl
theorem fmt16_any (w : World) (n : Nat) (hn : n < 65536) (hg : Glob w) :
    Calls Tryd.prog 114 #[.int .i64 n, .int .i64 16] w fun e w' => e = .returned (.string ⟨(numeral 16 n).toArray⟩) ∧ Below w.heap.size w w' := by
  have HG := hide hg
  have key : Calls Tryd.prog 100 #[.int .i64 n, .int .i64 16] w fun e w' => e = .returned (.string ⟨(numeral 16 n).toArray⟩) ∧ Below w.heap.size w w' := by
    clear hg
    go_enter Tryd.func100, Tryd.ntmps100
    go_wp2_with (go_at_call 113; refine (formatBits16 _ n hn HG.out).mono ?_; rintro e w1 ⟨rfl, hb⟩)
    go_ret
    exact ⟨rfl, hb⟩
  have HK := hide key
  clear hg key
  go_enter Tryd.func114, Tryd.ntmps114
  go_wp2_with (go_at_call 100; refine HK.out.mono ?_; rintro e w1 ⟨rfl, hb⟩)
  go_ret
  exact ⟨rfl, hb⟩
end Go.Proofs.YtdkoicfenehjcaaDoor
namespace Go.Proofs.YtdkoicfenehjcaaDoor
open Go.RowKit
set_option linter.unusedVariables false
set_option linter.unusedSimpArgs false

def sv (x : List UInt8) : Value := .string ⟨x.toArray⟩
def svs (xs : List (List UInt8)) : List Value := xs.map sv
theorem svs_one (xs : List (List UInt8)) : ∀ u ∈ svs xs, u.oneCell' = true := by
  intro u hu
  simp only [svs, List.mem_map] at hu
  obtain ⟨b, _, rfl⟩ := hu
  rfl
/-- a slice reads as ints -/
def AtI (w : World) (lo hi : Nat) (A : Option Addr) (n : Nat) (xs : List Nat) : Prop :=
  xs.length = n ∧ (0 < n → ∃ b o, A = some ⟨b, o, none⟩ ∧ lo ≤ b ∧ b < hi ∧ ∀ j (x : Nat), xs[j]? = some x → w.cell? ⟨b, o + j, none⟩ = some (.int .i64 (x : Int)))
section
variable {w w' : World} {lo hi n : Nat} {A : Option Addr} {xs : List Nat}
theorem AtI.len (h : AtI w lo hi A n xs) : xs.length = n := h.1
theorem AtI.keep (h : AtI w lo hi A n xs) (hk : ∀ p : Addr, lo ≤ p.block → p.block < hi → w'.cell? p = w.cell? p) : AtI w' lo hi A n xs :=
  ⟨h.1, fun hn => by
    obtain ⟨b, o, e, h1, h2, hc⟩ := h.2 hn
    exact ⟨b, o, e, h1, h2, fun j u hu => (hk _ h1 h2).trans (hc j u hu)⟩⟩
theorem AtI.below {B : Nat} (h : AtI w lo hi A n xs) (hb : Below B w w') (hB : hi ≤ B) : AtI w' lo hi A n xs := h.keep fun _ _ hp => hb.cell (by omega)
theorem AtI.at_ {k : Nat} (h : AtI w lo hi A n xs) (hk : k < n) : ∃ b o x, A = some ⟨b, o, none⟩ ∧ xs[k]? = some x ∧ w.cell? ⟨b, o + k, none⟩ = some (.int .i64 (x : Int)) := by
  obtain ⟨b, o, e, _, _, hc⟩ := h.2 (by omega)
  have hl : k < xs.length := by rw [h.1]; exact hk
  exact ⟨b, o, xs[k], e, List.getElem?_eq_getElem hl, hc k _ (List.getElem?_eq_getElem hl)⟩
theorem AtI.drewN (h : AtI w lo hi A n xs) (k : Nat) : AtI (w.drewN k) lo hi A n xs := h
end
theorem str_info : (Tryd.prog.info? 9).map (fun i => (i.zero, i.size, i.bytes)) = some (some (.string ⟨#[]⟩), 1, 16) := by kernel_rfl

/-- append of one text onto a row of the call's own -/
theorem wpList_append_str {w : World} {ops : Array Oper} {rest : List Oper} {o : Oper} {a : Act} {Q : Exit → Act → World → Prop} (hgd : o.guard = none) (s x : Operand)
    (ho : o.op = .call { callee := .builtin .append, args := #[s, x], argTypes := #[80, 80] })
    (base : Nat) (v : Value) (n : Nat) (xs : List (List UInt8)) (hs : a.eval s = v) (hown : w.ownsRow base 9 1 v n (svs xs))
    (g : Nat) (t : TypeId) (y : List UInt8) (hx : a.eval x = .slice (some ⟨g, 0, none⟩) 1 1) (hb : Blk w g t #[sv y]) (hn : n ≤ 8000000000000) (hbase : base ≤ w.heap.size)
    (h : ∀ v' w', w'.ownsRow base 9 1 v' (n + 1) (svs (xs ++ [y])) → w.grownBy w' v.ownBlock → wpList Tryd.prog ops Q rest (a.put o.dst v') w') : wpList Tryd.prog ops Q (o :: rest) a w := by
  obtain ⟨i0, hi0, hz0, hz1, hz2⟩ := info_parts str_info
  refine wpList_append_own w hgd s x 80 ho base 9 i0 (.string ⟨#[]⟩) 1 16 Tryd.underlying80 hi0 hz0 hz1 hz2 rfl (by decide) v n (svs xs) hs hown ⟨g, 0, none⟩ 1 1 [sv y] hx rfl ?_ ?_ (by unfold maxLen; omega) (by omega) hbase
    (fun v' w' h1 h2 _ => h v' w' (by unfold svs at h1 ⊢; rw [List.map_append]; exact h1) h2)
  · intro j u hu
    match j, hu with
    | 0, hu =>
      simp at hu
      subst hu
      exact hb.cell 0
  · intro u hu
    simp at hu
    subst hu
    rfl
/-- strings.Join at a row of the call's own -/
theorem joined_any (w : World) (base : Nat) {e : TypeId} (A : Option Addr) (n c : Nat) (xs : List (List UInt8)) (sep : List UInt8) (hown : w.ownsRow base e 1 (.slice A n c) n (svs xs)) (hn : n ≤ 1000000) (B : Nat) (hB : B + sep.length ≤ 1000) (hx : ∀ x ∈ xs, x.length ≤ B) :
    Calls Tryd.prog 51 #[.slice A n c, .string ⟨sep.toArray⟩] w fun e w' => e = .returned (.string ⟨(Lib.join xs sep).toArray⟩) ∧ Below w.heap.size w w' := by
  have hl : xs.length = n := by have := hown.1; simp [svs] at this; omega
  have hlen := join_len sep B xs hx
  rcases hown.2 with ⟨hv, h0⟩ | ⟨g, cap, cur, hv, hb, hg, h1, h2, h3, h4⟩
  · injection hv with hA hn0 hc0
    subst hn0
    have : xs = [] := List.eq_nil_of_length_eq_zero hl
    subst this
    exact (Tryd.strings_Join_none A c ⟨sep.toArray⟩ w).mono fun e w' ⟨h1, h2⟩ => ⟨h1, h2 ▸ Below.refl _ _⟩
  · injection hv with hA _ hc
    subst hA hc
    have hlt : g < w.heap.size := by
      rcases Nat.lt_or_ge g w.heap.size with h' | h'
      · exact h'
      · rw [Array.getElem?_eq_none h'] at hg; cases hg
    have hm : ((xs.map fun x => (⟨x.toArray⟩ : ByteArray)).map (·.data.toList)) = xs := by
      rw [List.map_map]
      exact (List.map_congr_left (fun b _ => rfl)).trans (List.map_id xs)
    have key := Tryd.strings_Join g 0 c (xs.map fun x => (⟨x.toArray⟩ : ByteArray)) ⟨sep.toArray⟩ w (fun j x hj => by
      rw [List.getElem?_map] at hj
      cases hxj : xs[j]? with
      | none => rw [hxj] at hj; cases hj
      | some y =>
        rw [hxj] at hj
        injection hj with hj
        subst hj
        have := hown.cells (g := g) rfl j (sv y) (by simp [svs, hxj])
        rwa [add_plain] at this) hlt (by simp; omega) (by simp; omega) (by
        rw [hm]
        refine Nat.le_trans hlen ?_
        have : xs.length * (B + sep.length) ≤ 1000000 * 1000 := Nat.mul_le_mul (by omega) hB
        omega)
    rw [hm] at key
    simpa [hl] using key
set_option maxHeartbeats 1000000 in
theorem join_any (w : World) (lo hi : Nat) (A : Option Addr) (n c : Nat) (xs : List Nat) (h : AtI w lo hi A n xs) (hh : hi ≤ w.heap.size) (hn : n ≤ 1000) (hx : ∀ x ∈ xs, x < 65536) (hg : Glob w) :
    Calls Tryd.prog 109 #[.slice A n c] w fun e w' => e = .returned (.string ⟨(joinN xs).toArray⟩) ∧ Below w.heap.size w w' := by
  obtain ⟨i0, hi0, hz0, hz1, hz2⟩ := info_parts str_info
  have H := hide h
  have HG := hide hg
  have HX := hide hx
  clear h hg hx
  go_enter Tryd.func109, Tryd.ntmps109
  go_wp2
  go_loopw [3, 8] (fun v i wr => ∃ (k : Nat) (vv : Value), k ≤ n ∧ v = vv ∧ i = .int .i64 k ∧ wr.ownsRow w.heap.size 9 1 vv k (svs ((xs.take k).map (numeral 16))) ∧ Below w.heap.size w wr) (fun _ i _ => n - (intOf i).toNat)
  case atStart => exact ⟨0, _, Nat.zero_le _, rfl, rfl, by simpa [svs] using World.ownsRow_nil _ _ _ _, Below.refl _ _⟩
  case round =>
    obtain ⟨k, vv, hk, rfl, rfl, hown, hbel⟩ := hrel
    obtain ⟨A2, c2, rfl, hc2, _⟩ := own_shape hown
    have HO := hide hown
    have HBL := hide hbel
    have hsz := hbel.size
    clear hown hbel
    by_cases hlt : k < n
    · obtain ⟨b, o, x, rfl, hu, hcell⟩ := (H.out.below HBL.out hh).at_ hlt
      have HU := hide hu
      have HXX := hide (HX.out x (List.mem_of_getElem? hu))
      clear hu
      go_wp2_with (first
        | (go_at_call 114; refine (fmt16_any _ x HXX.out (HG.out.below HBL.out)).mono ?_; rintro e w1 ⟨rfl, hb1⟩; have HB1 := hide hb1; have hz1 := hb1.size; have HO1 := hide (HO.out.kept (grown_of_below hb1 none) (by rcases A2 with _ | a; exact .inl rfl; exact .inr (by simp [Value.ownBlock]))); clear hb1)
        | (at_builtin; go_must (refine wpList_append_str rfl (.tmp 12) (.tmp 15) rfl w.heap.size _ k _ rfl (HO1.out.alloc _) w1.heap.size _ (numeral 16 x) rfl (Blk.new w1 _ _) (by omega) (by simp; omega) ?_); intro v2 w2 hown2 hg2; have HO2 := hide hown2; have HG2 := hide hg2; clear hown2 hg2))
      go_roundw
      case rel =>
        refine ⟨k + 1, _, by omega, rfl, by go_num, ?_, ((below_step HBL.out HB1.out (Nat.le_refl _)).alloc (by omega) _).grown HG2.out (by simp; omega) (fun g hg => (HO.out.lt g hg).1)⟩
        have e : (xs.take (k + 1)).map (numeral 16) = (xs.take k).map (numeral 16) ++ [numeral 16 x] := by
          rw [List.take_add_one, HU.out]
          simp
        rw [e]
        exact HO2.out
      case measure => simp [intOf]; omega
    · obtain rfl : k = n := by omega
      have hxk : (xs.take k).map (numeral 16) = xs.map (numeral 16) := by rw [List.take_of_length_le (by rw [H.out.len]; exact Nat.le_refl _)]
      have HXK := hide hxk
      clear hxk
      have HLN : Hid (∀ y ∈ xs.map (numeral 16), y.length ≤ 4) := by
        intro y hy
        obtain ⟨x, hx, rfl⟩ := List.mem_map.1 hy
        exact numeral_len (by decide) 3 x (HX.out x hx)
      go_wp2_with (go_at_call 51; go_must (refine (joined_any _ w.heap.size _ _ _ (xs.map (numeral 16)) [58] (by rw [← HXK.out]; exact HO.out) (by omega) 4 (by decide) HLN.out).mono ?_); rintro e w1 ⟨rfl, hb1⟩)
      go_ret
      exact ⟨rfl, below_step HBL.out hb1 (Nat.le_refl _)⟩
end Go.Proofs.YtdkoicfenehjcaaDoor
