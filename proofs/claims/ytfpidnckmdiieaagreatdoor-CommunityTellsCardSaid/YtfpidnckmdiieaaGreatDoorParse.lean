/-
  What read, Parse, PrefixText and ParsePrefix of package addr do. The conditions: the text is no longer than 2,000,000 bytes, and the library's tables hold what its text lays.
-/
import Derived.Test.YtfpidnckmdiieaaGreatDoorRead
import Derived.Test.YtfpidnckmdiieaaGreatDoorText
import Derived.Test.YtfpidnckmdiieaaGreatDoorAddr3
namespace Go.Proofs.YtfpidnckmdiieaaGreatDoor
open Go.RowKit
set_option linter.unusedVariables false
set_option linter.unusedSimpArgs false

theorem read4_len (s : List UInt8) : (read4 s).2.1.length = 16 := by
  unfold read4
  split
  · split
    · rename_i row h4
      exact ofB_len _ (by rw [flat_len, h4]; decide)
    · rfl
  · rfl
theorem read6_len (s : List UInt8) : (read6 s).2.1.length = 16 := by
  unfold read6 six2
  split
  · rfl
  · split
    · rfl
    · split
      · rename_i h
        exact ofB_len _ (by rw [flat_len]; simp; omega)
      · rfl
theorem readA_len (s : List UInt8) : (readA s).2.1.length = 16 := by
  unfold readA
  split
  · rfl
  · split
    · exact read6_len s
    · exact read4_len s
theorem contains_any (w : World) (s : List UInt8) :
    Calls Tryz.prog 149 #[.string ⟨s.toArray⟩, .string ⟨#[58]⟩] w fun e w' => e = .returned (.bool (decide (0 ≤ Lib.indexByte s 58))) ∧ w = w' :=
  (Tryz.strings_Contains_one ⟨s.toArray⟩ 58 w).mono fun e w' ⟨h1, h2⟩ => ⟨h1, h2.symm⟩
set_option maxRecDepth 20000 in
set_option maxHeartbeats 1000000 in
theorem read_any (w : World) (s : List UInt8) (hs : s.length ≤ 2000000) (hg : Glob w) :
    Calls Tryz.prog 128 #[.string ⟨s.toArray⟩] w (RdPost (readA s) w) := by
  have HG := hide hg
  have HZ0 := hide (addrC_zero 0)
  have B0 := hide (Blk.new w 27 (addrC 0 zero16))
  rw [HZ0.out] at B0
  clear hg
  cases s with
  | nil =>
    have hv : readA [] = (0, zero16, true) := rfl
    have HV := hide hv
    clear hv
    go_enter Tryz.func128, Tryz.ntmps128
    go_wp2_with (refine wpList_store_addr rfl (.tmp 2) (.tmp 7) rfl w.heap.size rfl (congrArg Value.agg HZ0.out).symm zero16_len B0.out rfl ?_; intro w4 hb4 hg4; have HB4 := hide hb4; have HG4 := hide hg4; clear hb4 hg4)
    refine ret_addr2 (p := 2) (q := 3) (v := .bool true) rfl rfl rfl HB4.out zero16_len rfl ⟨by rw [HV.out], ((Below.refl _ _).alloc (Nat.le_refl _) _).grown HG4.out (by simp) (by simp)⟩
  | cons c l =>
    have hv : readA (c :: l) = if 0 ≤ Lib.indexByte (c :: l) 58 then read6 (c :: l) else read4 (c :: l) := by unfold readA; rw [if_neg (by simp)]
    obtain ⟨s, hsd⟩ : ∃ s, c :: l = s := ⟨_, rfl⟩
    rw [hsd] at hv hs ⊢
    have he : s.isEmpty = false := by rw [← hsd]; rfl
    have hne : ¬ s = [] := by rw [← hsd]; simp
    have hbe : (s == []) = false := by rw [← hsd]; rfl
    clear hsd
    by_cases h58 : 0 ≤ Lib.indexByte s 58
    · have HV : Hid (readA s = read6 s) := hide (by rw [hv, if_pos h58])
      have HLN := hide (read6_len s)
      have hd : decide (0 ≤ Lib.indexByte s 58) = true := decide_eq_true h58
      have HD := hide hd
      clear hv h58 hd
      go_enter Tryz.func128, Tryz.ntmps128
      go_wp2_with (first
        | (go_at_call 149; refine (contains_any _ s).mono ?_; rintro e w1 ⟨rfl, rfl⟩; rw [HD.out])
        | (go_at_call 150; refine (readSix_any _ s hs (HG.out.below ((Below.refl _ _).alloc (Nat.le_refl _) _))).mono ?_; rintro e w1 ⟨rfl, hb1⟩; have HW1 := hide (((Below.refl w.heap.size w).alloc (Nat.le_refl _) _).trans (hb1.mono (by simp))); have B1 := hide (B0.out.below hb1 (by simp)); clear hb1)
        | (refine wpList_store_addr rfl (.tmp 2) (.tmp 13) rfl w.heap.size rfl rfl HLN.out B1.out rfl ?_; intro w4 hb4 hg4; have HB4 := hide hb4; have HG4 := hide hg4; clear hb4 hg4))
      refine ret_addr2 (p := 2) (q := 3) (v := .bool (read6 s).2.2) rfl rfl rfl HB4.out HLN.out rfl ⟨by rw [HV.out], HW1.out.grown HG4.out HW1.out.size (by simp)⟩
    · have HV : Hid (readA s = read4 s) := hide (by rw [hv, if_neg h58])
      have HLN := hide (read4_len s)
      have hd : decide (0 ≤ Lib.indexByte s 58) = false := decide_eq_false h58
      have HD := hide hd
      clear hv h58 hd
      go_enter Tryz.func128, Tryz.ntmps128
      go_wp2_with (first
        | (go_at_call 149; refine (contains_any _ s).mono ?_; rintro e w1 ⟨rfl, rfl⟩; rw [HD.out])
        | (go_at_call 151; refine (readFour_any _ s hs (HG.out.below ((Below.refl _ _).alloc (Nat.le_refl _) _))).mono ?_; rintro e w1 ⟨rfl, hb1⟩; have HW1 := hide (((Below.refl w.heap.size w).alloc (Nat.le_refl _) _).trans (hb1.mono (by simp))); have B1 := hide (B0.out.below hb1 (by simp)); clear hb1)
        | (refine wpList_store_addr rfl (.tmp 2) (.tmp 17) rfl w.heap.size rfl rfl HLN.out B1.out rfl ?_; intro w4 hb4 hg4; have HB4 := hide hb4; have HG4 := hide hg4; clear hb4 hg4))
      refine ret_addr2 (p := 2) (q := 3) (v := .bool (read4 s).2.2) rfl rfl rfl HB4.out HLN.out rfl ⟨by rw [HV.out], HW1.out.grown HG4.out HW1.out.size (by simp)⟩

/-- an address and an error -/
def parseA (s : List UInt8) : Int × List UInt8 × Int := if (readA s).2.2 = true ∧ textA (readA s).1 (readA s).2.1 = s then ((readA s).1, (readA s).2.1, 0) else (0, zero16, 4)
def PaPost (R : Int × List UInt8 × Int) (w : World) (e : Ending) (w' : World) : Prop := e = .returned (.tuple #[.agg (addrC R.1 R.2.1), .int .i64 R.2.2]) ∧ Below w.heap.size w w'
theorem parseA_len (s : List UInt8) : (parseA s).2.1.length = 16 := by
  unfold parseA
  split
  · exact readA_len s
  · rfl
set_option maxRecDepth 20000 in
set_option maxHeartbeats 2000000 in
theorem parse_any (w : World) (s : List UInt8) (hs : s.length ≤ 2000000) (hg : Glob w) :
    Calls Tryz.prog 98 #[.string ⟨s.toArray⟩] w (PaPost (parseA s) w) := by
  have HG := hide hg
  have HZ0 := hide (addrC_zero 0)
  have B0 := hide (Blk.new w 27 (addrC 0 zero16))
  rw [HZ0.out] at B0
  obtain ⟨z, bs, ok, hr⟩ : ∃ z bs ok, readA s = (z, bs, ok) := ⟨_, _, _, rfl⟩
  have hl := readA_len s
  rw [hr] at hl
  have HL := hide hl
  have HR := hide hr
  have hv : parseA s = if ok = true ∧ textA z bs = s then (z, bs, 0) else (0, zero16, 4) := by unfold parseA; rw [hr]
  have HV := hide hv
  clear hg hl hr hv
  by_cases hok : ok = true
  · subst hok
    by_cases htx : textA z bs = s
    · have HV2 : Hid (parseA s = (z, bs, 0)) := hide (by rw [HV.out, if_pos ⟨rfl, htx⟩])
      have HTX := hide htx
      clear htx
      go_enter Tryz.func98, Tryz.ntmps98
      go_wp2_with (first
        | (go_at_call 128; refine (read_any _ s hs (HG.out.below ((Below.refl _ _).alloc (Nat.le_refl _) _))).mono ?_; rintro e w1 ⟨rfl, hb1⟩; rw [HR.out]; simp only; have HW1 := hide (((Below.refl w.heap.size w).alloc (Nat.le_refl _) _).trans (hb1.mono (by simp))); have B1 := hide (B0.out.below hb1 (by simp)); clear hb1)
        | (refine wpList_store_addr rfl (.tmp 4) (.tmp 9) rfl w1.heap.size rfl rfl HL.out (Blk.new w1 _ _) rfl ?_; intro w2 hb2 hg2; have HB2 := hide hb2; have HW2 := hide ((HW1.out.alloc HW1.out.size _).grown hg2 (by have := HW1.out.size; simp; omega) (by intro q hq; injection hq with hq; subst hq; exact HW1.out.size)); have B2 := hide ((B1.out.alloc _).grown hg2 (by have := B1.out.lt; simp; omega)); clear hb2 hg2)
        | ((with_reducible refine wpList_load_addr_g ?_ (.tmp 4) rfl w1.heap.size rfl HB2.out HL.out ?_); · rfl)
        | (go_at_call 43; refine (text_any _ z bs HL.out (HG.out.below HW2.out)).mono ?_; rintro e w3 ⟨rfl, hb3⟩; rw [HTX.out]; have HB3 := hide (HB2.out.below hb3 HB2.out.lt); have B3 := hide (B2.out.below hb3 B2.out.lt); have HW3 := hide (below_step HW2.out hb3 (Nat.le_refl _)); clear hb3)
        | (with_reducible refine wpList_load_addr rfl (.tmp 4) rfl w1.heap.size rfl HB3.out HL.out ?_)
        | (refine wpList_store_addr rfl (.tmp 2) (.tmp 20) rfl w.heap.size rfl rfl HL.out B3.out rfl ?_; intro w4 hb4 hg4; have HB4 := hide hb4; have HG4 := hide hg4; clear hb4 hg4))
      refine ret_addr2 (p := 2) (q := 3) (v := .int .i64 0) rfl rfl rfl HB4.out HL.out rfl ⟨by rw [HV2.out], HW3.out.grown HG4.out HW3.out.size (by simp)⟩
    · have HV2 : Hid (parseA s = (0, zero16, 4)) := hide (by rw [HV.out, if_neg (fun h => htx h.2)])
      have hbe : (textA z bs == s) = false := by simpa using htx
      go_enter Tryz.func98, Tryz.ntmps98
      go_wp2_with (first
        | (go_at_call 128; refine (read_any _ s hs (HG.out.below ((Below.refl _ _).alloc (Nat.le_refl _) _))).mono ?_; rintro e w1 ⟨rfl, hb1⟩; rw [HR.out]; simp only; have HW1 := hide (((Below.refl w.heap.size w).alloc (Nat.le_refl _) _).trans (hb1.mono (by simp))); have B1 := hide (B0.out.below hb1 (by simp)); clear hb1)
        | (refine wpList_store_addr rfl (.tmp 4) (.tmp 9) rfl w1.heap.size rfl rfl HL.out (Blk.new w1 _ _) rfl ?_; intro w2 hb2 hg2; have HB2 := hide hb2; have HW2 := hide ((HW1.out.alloc HW1.out.size _).grown hg2 (by have := HW1.out.size; simp; omega) (by intro q hq; injection hq with hq; subst hq; exact HW1.out.size)); have B2 := hide ((B1.out.alloc _).grown hg2 (by have := B1.out.lt; simp; omega)); clear hb2 hg2)
        | ((with_reducible refine wpList_load_addr_g ?_ (.tmp 4) rfl w1.heap.size rfl HB2.out HL.out ?_); · rfl)
        | (go_at_call 43; refine (text_any _ z bs HL.out (HG.out.below HW2.out)).mono ?_; rintro e w3 ⟨rfl, hb3⟩; have HB3 := hide (HB2.out.below hb3 HB2.out.lt); have B3 := hide (B2.out.below hb3 B2.out.lt); have HW3 := hide (below_step HW2.out hb3 (Nat.le_refl _)); clear hb3)
        | (refine wpList_store_addr rfl (.tmp 2) (.tmp 19) rfl w.heap.size rfl (congrArg Value.agg HZ0.out).symm zero16_len B3.out rfl ?_; intro w4 hb4 hg4; have HB4 := hide hb4; have HG4 := hide hg4; clear hb4 hg4))
      refine ret_addr2 (p := 2) (q := 3) (v := .int .i64 4) rfl rfl rfl HB4.out zero16_len rfl ⟨by rw [HV2.out], HW3.out.grown HG4.out HW3.out.size (by simp)⟩
  · have hof : ok = false := by simpa using hok
    subst hof
    have HV2 : Hid (parseA s = (0, zero16, 4)) := hide (by rw [HV.out, if_neg (fun h => hok h.1)])
    clear hok
    go_enter Tryz.func98, Tryz.ntmps98
    go_wp2_with (first
      | (go_at_call 128; refine (read_any _ s hs (HG.out.below ((Below.refl _ _).alloc (Nat.le_refl _) _))).mono ?_; rintro e w1 ⟨rfl, hb1⟩; rw [HR.out]; simp only; have HW1 := hide (((Below.refl w.heap.size w).alloc (Nat.le_refl _) _).trans (hb1.mono (by simp))); have B1 := hide (B0.out.below hb1 (by simp)); clear hb1)
      | (refine wpList_store_addr rfl (.tmp 4) (.tmp 9) rfl w1.heap.size rfl rfl HL.out (Blk.new w1 _ _) rfl ?_; intro w2 hb2 hg2; have HB2 := hide hb2; have HW2 := hide ((HW1.out.alloc HW1.out.size _).grown hg2 (by have := HW1.out.size; simp; omega) (by intro q hq; injection hq with hq; subst hq; exact HW1.out.size)); have B2 := hide ((B1.out.alloc _).grown hg2 (by have := B1.out.lt; simp; omega)); clear hb2 hg2)
      | (refine wpList_store_addr rfl (.tmp 2) (.tmp 19) rfl w.heap.size rfl (congrArg Value.agg HZ0.out).symm zero16_len B2.out rfl ?_; intro w4 hb4 hg4; have HB4 := hide hb4; have HG4 := hide hg4; clear hb4 hg4))
    refine ret_addr2 (p := 2) (q := 3) (v := .int .i64 4) rfl rfl rfl HB4.out zero16_len rfl ⟨by rw [HV2.out], HW2.out.grown HG4.out HW2.out.size (by simp)⟩
end Go.Proofs.YtfpidnckmdiieaaGreatDoor
