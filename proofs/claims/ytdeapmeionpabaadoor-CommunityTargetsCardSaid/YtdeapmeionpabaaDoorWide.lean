/-
  Texts of any size that fits memory: strings.Cut at one sign, digits.Number, and addr.Parse of a text without a colon. The one condition beside: the library's tables hold what its text lays.
-/
import Derived.Test.YtdeapmeionpabaaDoorPText
import Derived.Test.YtdeapmeionpabaaDoorBackMath
import Derived.Lib.IndexBytes
namespace Go.Proofs.YtdeapmeionpabaaDoor
open Go.RowKit
set_option linter.unusedVariables false
set_option linter.unusedSimpArgs false

set_option maxHeartbeats 1000000 in
set_option maxRecDepth 20000 in
theorem cutlite1_any (w : World) (s : ByteArray) (c : UInt8) (hs : s.size ≤ 140737488355328) :
    Calls Tryd.prog 85 #[.string s, .string ⟨#[c]⟩] w fun e w' => e = .returned (.tuple #[.string ⟨(Lib.cut s.data.toList [c]).1.toArray⟩, .string ⟨(Lib.cut s.data.toList [c]).2.1.toArray⟩, .bool (Lib.cut s.data.toList [c]).2.2]) ∧ ∃ n, w' = w.drewN n := by
  have key : ∀ x : World, Calls Tryd.prog 118 #[.string s, .string ⟨#[c]⟩] x fun e w' => e = .returned (.int .i64 (Lib.index s.data.toList [c])) ∧ x = w' := fun x =>
    (Tryd.stringslite_Index_one s c x).mono fun e w' ⟨h1, h2⟩ => ⟨by rw [Lib.index_one]; exact h1, h2.symm⟩
  have HKY := hide key
  clear key
  rcases Lib.indexB_cases s ⟨#[c]⟩ with hix | ⟨i, hix, hroom⟩
  · obtain ⟨e1, e2, e3⟩ := Lib.cutB_miss s ⟨#[c]⟩ hix
    have HE := hide (And.intro e1 (And.intro e2 e3))
    have HIX : Hid (Lib.index s.data.toList [c] = _) := hix
    clear e1 e2 e3 hix
    go_enter Tryd.func85, Tryd.ntmps85
    go_wp2_with fail
    refine (HKY.out _).mono ?_
    rintro e w1 ⟨rfl, rfl⟩
    rw [HIX.out]
    go_wp2_with fail
    go_ret3
    exact ⟨by rw [show (Lib.cut s.data.toList [c]).1.toArray = _ from congrArg ByteArray.data HE.out.1, show (Lib.cut s.data.toList [c]).2.1.toArray = _ from congrArg ByteArray.data HE.out.2.1, show (Lib.cut s.data.toList [c]).2.2 = _ from HE.out.2.2]; rfl, 0, rfl⟩
  · obtain ⟨e1, e2, e3⟩ := Lib.cutB_hit s ⟨#[c]⟩ i hix
    have hr1 : i + 1 ≤ s.size := hroom
    have c1 : (0 : Int) ≤ ↑i := by omega
    have c2 : (↑i : Int) ≤ ↑s.size := by omega
    have c3 : (0 : Int) ≤ ↑i + 1 := by omega
    have c4 : (↑i + 1 : Int) ≤ ↑s.size := by omega
    have c5 : IntKind.i64.wrap ((i : Int) + 1) = (i : Int) + 1 := IntWalk.i64_in _ (by omega)
    have mixed : Tryd.prog.follows Departure.mixedOrders = true := by kernel_rfl
    have HE := hide (And.intro e1 (And.intro e2 e3))
    have HIX : Hid (Lib.index s.data.toList [c] = _) := hix
    clear e1 e2 e3 hix hroom
    go_enter Tryd.func85, Tryd.ntmps85
    go_wp2_with fail
    refine (HKY.out _).mono ?_
    rintro e w1 ⟨rfl, rfl⟩
    rw [HIX.out]
    go_wp2_with fail
    go_region_o
    go_wp2
    go_ret3
    exact ⟨by rw [show (Lib.cut s.data.toList [c]).1.toArray = _ from congrArg ByteArray.data HE.out.1, show (Lib.cut s.data.toList [c]).2.1.toArray = _ from congrArg ByteArray.data HE.out.2.1, show (Lib.cut s.data.toList [c]).2.2 = _ from HE.out.2.2]; rfl, 1, rfl⟩
theorem cut1_any (w : World) (s : List UInt8) (c : UInt8) (hs : s.length ≤ 140737488355328) :
    Calls Tryd.prog 47 #[.string ⟨s.toArray⟩, .string ⟨[c].toArray⟩] w fun e w' => e = .returned (.tuple #[.string ⟨(Lib.cut s [c]).1.toArray⟩, .string ⟨(Lib.cut s [c]).2.1.toArray⟩, .bool (Lib.cut s [c]).2.2]) ∧ Below w.heap.size w w' := by
  have key := fun x : World => cutlite1_any x ⟨s.toArray⟩ c (by show s.toArray.size ≤ _; simpa using hs)
  have HKY := hide key
  clear key
  go_enter Tryd.func47, Tryd.ntmps47
  go_wp2_with fail
  refine (HKY.out _).mono ?_
  rintro e w1 ⟨rfl, n, rfl⟩
  go_wp2_with fail
  go_ret3
  exact ⟨rfl, below_drewN (Below.refl _ _) n⟩
theorem number_wide (w : World) (l : List UInt8) (hs : l.length ≤ 140737488355328) (base top : Nat) (hb : base ≤ 16) (ht : top ≤ 4294967296) :
    Calls Tryd.prog 48 #[.string ⟨l.toArray⟩, .int .i64 base, .int .i64 top] w fun e w' => e = .returned (.tuple #[.int .i64 (numV base top l : Nat), .bool (numO base top l)]) ∧ Below w.heap.size w w' :=
  number_any w ⟨l.toArray⟩ (by unfold maxLen; show l.toArray.size ≤ _; simp; omega) base top hb ht
set_option maxHeartbeats 2000000 in
theorem numbers1_any (w : World) (s : List UInt8) (q0 : UInt8) (hs : s.length ≤ 140737488355328) (base top : Nat) (hb : base ≤ 16) (ht : top ≤ 1000000) (hg : Glob w) :
    Calls Tryd.prog 114 #[.string ⟨s.toArray⟩, .string ⟨[q0].toArray⟩, .int .i64 base, .int .i64 top] w (NumsPost (nums [q0] base top s) top w) := by
  have HG := hide hg
  clear hg
  have key : ∀ m0 : Bool, (!s.isEmpty) = m0 → Hid (nums [q0] base top s = numsL [q0] base top 9 m0 s) := fun m0 h => by unfold nums; rw [h]; exact hide rfl
  obtain ⟨m0, hm0⟩ : ∃ m0, (!s.isEmpty) = m0 := ⟨_, rfl⟩
  have HK := key m0 hm0
  clear key
  go_enter Tryd.func114, Tryd.ntmps114
  go_wp2
  go_loopw [0, 10, 11] (fun sv rv mv wr => ∃ (k : Nat) (acc : List Nat) (l : List UInt8) (m : Bool) (vv : Value), sv = .string ⟨l.toArray⟩ ∧ rv = vv ∧ mv = .bool m ∧ k ≤ 9 ∧ l.length ≤ 140737488355328 ∧ wr.ownsRow w.heap.size 3 1 vv k (ivs acc) ∧ Below w.heap.size w wr ∧
    Hid ((∀ x ∈ acc, x ≤ top) ∧ numsL [q0] base top 9 m0 s = (numsL [q0] base top (9 - k) m l).map (acc ++ ·))) (fun _ rv _ _ => 9 - slen rv)
  case atStart => exact ⟨0, [], s, m0, _, rfl, rfl, rfl, by omega, hs, by simpa [ivs] using World.ownsRow_nil _ _ _ _, Below.refl _ _, hide ⟨by simp, by simp⟩⟩
  case round =>
    obtain ⟨k, acc, l, m, vv, rfl, rfl, rfl, hk, hl, hown, hbel, hR⟩ := hrel
    obtain ⟨A2, c2, rfl, hc2, _⟩ := own_shape hown
    have HO := hide hown
    have HBL := hide hbel
    have hsz := hbel.size
    have HC2 := hide hc2
    clear hown hbel hc2
    by_cases hgo : m = true ∧ k ≤ 8
    · obtain ⟨rfl, hk8⟩ := hgo
      have HCL := hide (cut_len l [q0])
      have hstep : numsL [q0] base top (9 - k) true l = if numO base top (Lib.cut l [q0]).1 = true then (numsL [q0] base top (9 - (k + 1)) (Lib.cut l [q0]).2.2 (Lib.cut l [q0]).2.1).map (numV base top (Lib.cut l [q0]).1 :: ·) else none := by
        rw [show 9 - k = (9 - (k + 1)) + 1 by omega]
        rfl
      obtain ⟨x, y, z, hxyz⟩ : ∃ x y z, Lib.cut l [q0] = (x, y, z) := ⟨_, _, _, rfl⟩
      have HX := hide hxyz
      rw [hxyz] at hstep
      have HST := hide hstep
      have hyl : y.length ≤ 140737488355328 := by have := HCL.out.2; rw [hxyz] at this; simp at this; omega
      have hxl : x.length ≤ 140737488355328 := by have := HCL.out.1; rw [hxyz] at this; simp at this; omega
      clear hstep hxyz HCL
      go_wp2_with fail
      refine (cut1_any _ l q0 (by omega)).mono ?_
      rintro e w1 ⟨rfl, hb1⟩
      rw [HX.out]
      have HB1 := hide (below_step HBL.out hb1 (Nat.le_refl _))
      have HO1 := hide (HO.out.kept (grown_of_below hb1 none) (by rcases A2 with _ | a; exact .inl rfl; exact .inr (by simp [Value.ownBlock])))
      clear hb1
      simp only
      go_wp2_with fail
      refine (number_wide _ x (by omega) base top hb (by omega)).mono ?_
      rintro e w2 ⟨rfl, hb2⟩
      have HB2 := hide (below_step HB1.out hb2 (Nat.le_refl _))
      have HO2 := hide (HO1.out.kept (grown_of_below hb2 none) (by rcases A2 with _ | a; exact .inl rfl; exact .inr (by simp [Value.ownBlock])))
      have hz2 := HB2.out.size
      clear hb2
      obtain ⟨o, ho⟩ : ∃ o, numO base top x = o := ⟨_, rfl⟩
      rw [ho]
      have HOO := hide ho
      clear ho
      cases o
      · go_wp2_with fail
        go_ret2
        have hn : nums [q0] base top s = none := by rw [HK.out, hR.out.2, HST.out]; simp [HOO.out]
        exact ⟨none, 0, 0, by rw [hn]; rfl, by rw [hn]; exact ⟨rfl, fun h => absurd h (by omega)⟩, by omega, by omega, by rw [hn]; simp, HB2.out⟩
      · go_wp2_with (at_builtin; go_must (refine wpList_append_int rfl (.tmp 39) (.tmp 41) rfl w.heap.size _ k acc rfl (HO2.out.alloc _) w2.heap.size _ (numV base top x) rfl (Blk.new w2 _ _) (by omega) (by simp; omega) ?_); intro v3 w3 hown3 hg3; have HO3 := hide hown3; have HG3 := hide hg3; clear hown3 hg3)
        go_roundw
        case rel =>
          refine ⟨k + 1, acc ++ [numV base top x], y, z, _, rfl, rfl, rfl, by omega, hyl, HO3.out, (HB2.out.alloc (by omega) _).grown HG3.out (by simp; omega) (fun g hg => (HO.out.lt g hg).1), hide ⟨?_, ?_⟩⟩
          · intro q hq
            rcases List.mem_append.1 hq with hq | hq
            · exact hR.out.1 q hq
            · simp at hq; subst hq; exact numV_le _ _ _
          · rw [hR.out.2, HST.out, if_pos HOO.out]
            simp [Option.map_map, Function.comp_def, List.append_assoc]
        case measure =>
          obtain ⟨A3, c3, e3, _⟩ := own_shape HO3.out
          rw [e3]
          simp [slen]
          omega
    · have hn : nums [q0] base top s = some acc := by
        rw [HK.out, hR.out.2]
        by_cases hm : m = true
        · have : 9 - k = 0 := by have : ¬ k ≤ 8 := fun h => hgo ⟨hm, h⟩; omega
          rw [this]; simp [numsL]
        · have : m = false := by simpa using hm
          rw [this, numsL_stop]; simp
      have HN := hide hn
      clear hn
      have hfin : ∀ wr', wr' = wr → NumsPost (nums [q0] base top s) top w (.returned (.tuple #[.slice A2 k c2, .bool true])) wr' := by
        rintro wr' rfl
        exact ⟨A2, k, c2, by rw [HN.out]; rfl, by rw [HN.out]; exact AtI.own HO.out, hk, HC2.out, by rw [HN.out]; exact hR.out.1, HBL.out⟩
      have HF := hide hfin
      clear hfin
      cases m
      · clear hgo
        go_wp2_with fail
        go_ret2
        exact HF.out _ rfl
      · have hk9 : k = 9 := by have : ¬ k ≤ 8 := fun h => hgo ⟨rfl, h⟩; omega
        subst hk9
        clear hgo
        go_wp2_with fail
        go_ret2
        exact HF.out _ rfl
set_option maxRecDepth 20000 in
set_option maxHeartbeats 2000000 in
theorem readFour1_any (w : World) (s : List UInt8) (hs : s.length ≤ 140737488355328) (hg : Glob w) :
    Calls Tryd.prog 81 #[.string ⟨s.toArray⟩] w (RdPost (read4 s) w) := by
  have HG := hide hg
  have HZ0 := hide (addrC_zero 0)
  have hr : read4 s = match nums [46] 10 255 s with
    | some row => if row.length = 4 then ofNum 1 row else noA
    | none => noA := rfl
  obtain ⟨R, hR⟩ : ∃ R, nums [46] 10 255 s = R := ⟨_, rfl⟩
  rw [hR] at hr
  have HR := hide hR
  have HV := hide hr
  clear hg hR hr
  have hz : Hid (∀ {w2 : World} {t : TypeId} {old : Array Value}, Blk w2 w.heap.size t old → old.size = 17 → True) := fun _ _ => trivial
  have B0 := hide (Blk.new w 24 (addrC 0 zero16))
  rw [HZ0.out] at B0
  go_enter Tryd.func81, Tryd.ntmps81
  go_wp2_with fail
  refine (numbers1_any _ s 46 hs 10 255 (by decide) (by decide) (HG.out.below ((Below.refl _ _).alloc (Nat.le_refl _) _))).mono ?_
  rintro e w1 ⟨A, n, c, rfl, hat, hn9, hnc, hle, hb1⟩
  rw [HR.out] at hat hle ⊢
  have HW1 : Hid (Below w.heap.size w w1) := ((Below.refl _ _).alloc (Nat.le_refl _) _).trans (hb1.mono (by simp))
  have B1 := hide (B0.out.below hb1 (by simp))
  rw [← HZ0.out] at B1
  clear hb1 B0
  cases R with
  | none =>
    simp only [Option.isSome_none]
    go_wp2_with (refine wpList_store_addr rfl (.tmp 2) (.tmp 18) rfl w.heap.size rfl (congrArg Value.agg HZ0.out).symm zero16_len B1.out (addrC_size 0 zero16_len) ?_; intro w4 hb4 hg4; have HB4 := hide hb4; have HG4 := hide hg4; clear hb4 hg4)
    refine ret_addr2 (p := 2) (q := 3) (v := .bool false) rfl rfl rfl HB4.out zero16_len rfl ⟨by rw [HV.out]; rfl, HW1.out.grown HG4.out HW1.out.size (by simp)⟩
  | some row =>
    simp only [Option.isSome_some]
    have HAT := hide hat
    have HLE := hide hle
    have hlen := hat.len
    simp only [Option.getD_some] at hlen
    clear hat hle
    by_cases h4 : n = 4
    · subst h4
      have hl4 := HAT.out.len
      have hv : read4 s = ofNum 1 row := by rw [HV.out]; simp only; rw [if_pos hlen]
      have HV2 := hide hv
      have hfl : (ofB (flat 1 row)).length = 16 := ofB_len _ (by rw [flat_len, hlen]; decide)
      have HFL := hide hfl
      clear hv hlen hl4 hfl
      go_wp2_with fail
      refine (ofNumbers_any _ _ _ _ _ _ row HAT.out (Nat.le_refl _) (by decide) 1 (by decide) (by decide) (fun x hx => by have := HLE.out x hx; omega)).mono ?_
      rintro e w2 ⟨rfl, hb2⟩
      have B2 := hide (B1.out.below hb2 B1.out.lt)
      have HW2 := hide (below_step HW1.out hb2 (Nat.le_refl _))
      clear hb2
      go_wp2_with (refine wpList_store_addr rfl (.tmp 2) (.tmp 21) rfl w.heap.size rfl rfl HFL.out B2.out (addrC_size 0 zero16_len) ?_; intro w4 hb4 hg4; have HB4 := hide hb4; have HG4 := hide hg4; clear hb4 hg4)
      refine ret_addr2 (p := 2) (q := 3) (v := .bool (decide (ofE (flat 1 row) = 0))) rfl rfl rfl HB4.out HFL.out rfl ⟨by rw [HV2.out]; rfl, HW2.out.grown HG4.out HW2.out.size (by simp)⟩
    · have hv : read4 s = noA := by rw [HV.out]; simp only; rw [if_neg (by omega)]
      have HV2 := hide hv
      have hne : ((n : Int) != 4) = true := by simp; omega
      clear hv hlen
      go_wp2_with (refine wpList_store_addr rfl (.tmp 2) (.tmp 18) rfl w.heap.size rfl (congrArg Value.agg HZ0.out).symm zero16_len B1.out (addrC_size 0 zero16_len) ?_; intro w4 hb4 hg4; have HB4 := hide hb4; have HG4 := hide hg4; clear hb4 hg4)
      refine ret_addr2 (p := 2) (q := 3) (v := .bool false) rfl rfl rfl HB4.out zero16_len rfl ⟨by rw [HV2.out]; rfl, HW1.out.grown HG4.out HW1.out.size (by simp)⟩

set_option maxRecDepth 20000 in
set_option maxHeartbeats 1000000 in
theorem read1_any (w : World) (s : List UInt8) (hs : s.length ≤ 140737488355328) (hno : (58 : UInt8) ∉ s) (hg : Glob w) :
    Calls Tryd.prog 37 #[.string ⟨s.toArray⟩] w (RdPost (readA s) w) := by
  have HG := hide hg
  have HZ0 := hide (addrC_zero 0)
  have B0 := hide (Blk.new w 24 (addrC 0 zero16))
  rw [HZ0.out] at B0
  clear hg
  cases s with
  | nil =>
    have hv : readA [] = (0, zero16, true) := rfl
    have HV := hide hv
    clear hv
    go_enter Tryd.func37, Tryd.ntmps37
    go_wp2_with (refine wpList_store_addr rfl (.tmp 2) (.tmp 7) rfl w.heap.size rfl (congrArg Value.agg HZ0.out).symm zero16_len B0.out rfl ?_; intro w4 hb4 hg4; have HB4 := hide hb4; have HG4 := hide hg4; clear hb4 hg4)
    refine ret_addr2 (p := 2) (q := 3) (v := .bool true) rfl rfl rfl HB4.out zero16_len rfl ⟨by rw [HV.out], ((Below.refl _ _).alloc (Nat.le_refl _) _).grown HG4.out (by simp) (by simp)⟩
  | cons c l =>
    have hv : readA (c :: l) = if 0 ≤ Lib.indexByte (c :: l) 58 then read6 (c :: l) else read4 (c :: l) := by unfold readA; rw [if_neg (by simp)]
    obtain ⟨s, hsd⟩ : ∃ s, c :: l = s := ⟨_, rfl⟩
    rw [hsd] at hv hs hno ⊢
    have he : s.isEmpty = false := by rw [← hsd]; rfl
    have hne : ¬ s = [] := by rw [← hsd]; simp
    have hbe : (s == []) = false := by rw [← hsd]; rfl
    clear hsd
    have h58 : ¬ 0 ≤ Lib.indexByte s 58 := indexByte_not hno
    have HV : Hid (readA s = read4 s) := hide (by rw [hv, if_neg h58])
    have HLN := hide (read4_len s)
    have hd : decide (0 ≤ Lib.indexByte s 58) = false := decide_eq_false h58
    have HD := hide hd
    clear hv h58 hd hno
    go_enter Tryd.func37, Tryd.ntmps37
    go_wp2_with (first
      | (go_at_call 79; refine (contains_any _ s).mono ?_; rintro e w1 ⟨rfl, rfl⟩; rw [HD.out])
      | (go_at_call 81; refine (readFour1_any _ s hs (HG.out.below ((Below.refl _ _).alloc (Nat.le_refl _) _))).mono ?_; rintro e w1 ⟨rfl, hb1⟩; have HW1 := hide (((Below.refl w.heap.size w).alloc (Nat.le_refl _) _).trans (hb1.mono (by simp))); have B1 := hide (B0.out.below hb1 (by simp)); clear hb1)
      | (refine wpList_store_addr rfl (.tmp 2) (.tmp 17) rfl w.heap.size rfl rfl HLN.out B1.out rfl ?_; intro w4 hb4 hg4; have HB4 := hide hb4; have HG4 := hide hg4; clear hb4 hg4))
    refine ret_addr2 (p := 2) (q := 3) (v := .bool (read4 s).2.2) rfl rfl rfl HB4.out HLN.out rfl ⟨by rw [HV.out], HW1.out.grown HG4.out HW1.out.size (by simp)⟩

set_option maxRecDepth 20000 in
set_option maxHeartbeats 2000000 in
theorem parse1_any (w : World) (s : List UInt8) (hs : s.length ≤ 140737488355328) (hno : (58 : UInt8) ∉ s) (hg : Glob w) :
    Calls Tryd.prog 10 #[.string ⟨s.toArray⟩] w (PaPost (parseA s) w) := by
  have HG := hide hg
  have HNO : Hid ((58 : UInt8) ∉ s) := hno
  clear hno
  have HZ0 := hide (addrC_zero 0)
  have B0 := hide (Blk.new w 24 (addrC 0 zero16))
  rw [HZ0.out] at B0
  obtain ⟨z, bs, ok, hr⟩ : ∃ z bs ok, readA s = (z, bs, ok) := ⟨_, _, _, rfl⟩
  have hl := readA_len s
  rw [hr] at hl
  have HL := hide hl
  have HR := hide hr
  have hv : parseA s = if ok = true ∧ textA z bs = s then (z, bs, 0) else (0, zero16, 4) := by unfold parseA; rw [hr]
  have HV := hide hv
  clear hg hl hr hv
  by_cases hok : ok = true
  · subst hok
    by_cases htx : textA z bs = s
    · have HV2 : Hid (parseA s = (z, bs, 0)) := hide (by rw [HV.out, if_pos ⟨rfl, htx⟩])
      have HTX := hide htx
      clear htx
      go_enter Tryd.func10, Tryd.ntmps10
      go_wp2_with (first
        | (go_at_call 37; refine (read1_any _ s hs HNO.out (HG.out.below ((Below.refl _ _).alloc (Nat.le_refl _) _))).mono ?_; rintro e w1 ⟨rfl, hb1⟩; rw [HR.out]; simp only; have HW1 := hide (((Below.refl w.heap.size w).alloc (Nat.le_refl _) _).trans (hb1.mono (by simp))); have B1 := hide (B0.out.below hb1 (by simp)); clear hb1)
        | (refine wpList_store_addr rfl (.tmp 4) (.tmp 9) rfl w1.heap.size rfl rfl HL.out (Blk.new w1 _ _) rfl ?_; intro w2 hb2 hg2; have HB2 := hide hb2; have HW2 := hide ((HW1.out.alloc HW1.out.size _).grown hg2 (by have := HW1.out.size; simp; omega) (by intro q hq; injection hq with hq; subst hq; exact HW1.out.size)); have B2 := hide ((B1.out.alloc _).grown hg2 (by have := B1.out.lt; simp; omega)); clear hb2 hg2)
        | ((with_reducible refine wpList_load_addr_g ?_ (.tmp 4) rfl w1.heap.size rfl HB2.out HL.out ?_); · rfl)
        | (go_at_call 12; refine (text_any _ z bs HL.out (HG.out.below HW2.out)).mono ?_; rintro e w3 ⟨rfl, hb3⟩; rw [HTX.out]; have HB3 := hide (HB2.out.below hb3 HB2.out.lt); have B3 := hide (B2.out.below hb3 B2.out.lt); have HW3 := hide (below_step HW2.out hb3 (Nat.le_refl _)); clear hb3)
        | (with_reducible refine wpList_load_addr rfl (.tmp 4) rfl w1.heap.size rfl HB3.out HL.out ?_)
        | (refine wpList_store_addr rfl (.tmp 2) (.tmp 20) rfl w.heap.size rfl rfl HL.out B3.out rfl ?_; intro w4 hb4 hg4; have HB4 := hide hb4; have HG4 := hide hg4; clear hb4 hg4))
      refine ret_addr2 (p := 2) (q := 3) (v := .int .i64 0) rfl rfl rfl HB4.out HL.out rfl ⟨by rw [HV2.out], HW3.out.grown HG4.out HW3.out.size (by simp)⟩
    · have HV2 : Hid (parseA s = (0, zero16, 4)) := hide (by rw [HV.out, if_neg (fun h => htx h.2)])
      have hbe : (textA z bs == s) = false := by simpa using htx
      go_enter Tryd.func10, Tryd.ntmps10
      go_wp2_with (first
        | (go_at_call 37; refine (read1_any _ s hs HNO.out (HG.out.below ((Below.refl _ _).alloc (Nat.le_refl _) _))).mono ?_; rintro e w1 ⟨rfl, hb1⟩; rw [HR.out]; simp only; have HW1 := hide (((Below.refl w.heap.size w).alloc (Nat.le_refl _) _).trans (hb1.mono (by simp))); have B1 := hide (B0.out.below hb1 (by simp)); clear hb1)
        | (refine wpList_store_addr rfl (.tmp 4) (.tmp 9) rfl w1.heap.size rfl rfl HL.out (Blk.new w1 _ _) rfl ?_; intro w2 hb2 hg2; have HB2 := hide hb2; have HW2 := hide ((HW1.out.alloc HW1.out.size _).grown hg2 (by have := HW1.out.size; simp; omega) (by intro q hq; injection hq with hq; subst hq; exact HW1.out.size)); have B2 := hide ((B1.out.alloc _).grown hg2 (by have := B1.out.lt; simp; omega)); clear hb2 hg2)
        | ((with_reducible refine wpList_load_addr_g ?_ (.tmp 4) rfl w1.heap.size rfl HB2.out HL.out ?_); · rfl)
        | (go_at_call 12; refine (text_any _ z bs HL.out (HG.out.below HW2.out)).mono ?_; rintro e w3 ⟨rfl, hb3⟩; have HB3 := hide (HB2.out.below hb3 HB2.out.lt); have B3 := hide (B2.out.below hb3 B2.out.lt); have HW3 := hide (below_step HW2.out hb3 (Nat.le_refl _)); clear hb3)
        | (refine wpList_store_addr rfl (.tmp 2) (.tmp 19) rfl w.heap.size rfl (congrArg Value.agg HZ0.out).symm zero16_len B3.out rfl ?_; intro w4 hb4 hg4; have HB4 := hide hb4; have HG4 := hide hg4; clear hb4 hg4))
      refine ret_addr2 (p := 2) (q := 3) (v := .int .i64 4) rfl rfl rfl HB4.out zero16_len rfl ⟨by rw [HV2.out], HW3.out.grown HG4.out HW3.out.size (by simp)⟩
  · have hof : ok = false := by simpa using hok
    subst hof
    have HV2 : Hid (parseA s = (0, zero16, 4)) := hide (by rw [HV.out, if_neg (fun h => hok h.1)])
    clear hok
    go_enter Tryd.func10, Tryd.ntmps10
    go_wp2_with (first
      | (go_at_call 37; refine (read1_any _ s hs HNO.out (HG.out.below ((Below.refl _ _).alloc (Nat.le_refl _) _))).mono ?_; rintro e w1 ⟨rfl, hb1⟩; rw [HR.out]; simp only; have HW1 := hide (((Below.refl w.heap.size w).alloc (Nat.le_refl _) _).trans (hb1.mono (by simp))); have B1 := hide (B0.out.below hb1 (by simp)); clear hb1)
      | (refine wpList_store_addr rfl (.tmp 4) (.tmp 9) rfl w1.heap.size rfl rfl HL.out (Blk.new w1 _ _) rfl ?_; intro w2 hb2 hg2; have HB2 := hide hb2; have HW2 := hide ((HW1.out.alloc HW1.out.size _).grown hg2 (by have := HW1.out.size; simp; omega) (by intro q hq; injection hq with hq; subst hq; exact HW1.out.size)); have B2 := hide ((B1.out.alloc _).grown hg2 (by have := B1.out.lt; simp; omega)); clear hb2 hg2)
      | (refine wpList_store_addr rfl (.tmp 2) (.tmp 19) rfl w.heap.size rfl (congrArg Value.agg HZ0.out).symm zero16_len B2.out rfl ?_; intro w4 hb4 hg4; have HB4 := hide hb4; have HG4 := hide hg4; clear hb4 hg4))
    refine ret_addr2 (p := 2) (q := 3) (v := .int .i64 4) rfl rfl rfl HB4.out zero16_len rfl ⟨by rw [HV2.out], HW2.out.grown HG4.out HW2.out.size (by simp)⟩
end Go.Proofs.YtdeapmeionpabaaDoor
