/-
  Tunnels as plain data: which are right, their bytes, and what is read of bytes. No condition. Nothing here speaks of the program.
-/
import Derived.Test.YtjhpikbilegfaaaGreatDoorMath
import Derived.Test.YtjhpikbilegfaaaGreatDoorLabMath
namespace Go.Proofs.YtjhpikbilegfaaaGreatDoor
open Go.RowKit
set_option linter.unusedVariables false
set_option linter.unusedSimpArgs false

/-- a tunnel: Leaf, Kind, Label, Root's Size and bytes, Id -/
structure Tun where
  leaf : Bool
  k : Int
  l : Int
  s : Int
  bs : List UInt8
  id : List UInt8
/-- are Root and Id such as Kind asks for? -/
def identB (k s : Int) (id : List UInt8) : Bool :=
  if k = 0 then decide (s = 0 ∧ id.length = 0)
  else if k = 1 then decide (s = 4 ∧ id.length = 6)
  else if k = 2 ∨ k = 7 then decide (0 < s ∧ id.length ≤ 64)
  else if k = 3 ∨ k = 4 ∨ k = 5 then decide (s = id.length) && multiA (ofS id) (ofB id)
  else if k = 6 then decide (0 < s ∧ id.length = 0)
  else false
def rightT (t : Tun) : Bool := decide (0 ≤ t.l ∧ t.l ≤ 1048575) && (rightA t.s t.bs && identB t.k t.s t.id)
/-- what stands ahead of a root -/
def whichR (k s : Int) : List UInt8 := [if k = 7 then 7 else 6, 0, if s = 16 then 2 else 1, UInt8.ofNat s.toNat]
def identR (k s : Int) (bs id : List UInt8) : List UInt8 :=
  if k = 1 then id.take 4 ++ ([0, 0] ++ (id.drop 4 ++ bytesA s bs))
  else if k = 2 ∨ k = 7 then whichR k s ++ (bytesA s bs ++ (be 2 id.length ++ id))
  else if k = 3 ∨ k = 4 ∨ k = 5 then bytesA s bs ++ id
  else bytesA s bs
def headT (t : Tun) : List UInt8 := [if t.leaf then 1 else 0, UInt8.ofNat t.k.toNat]
def codeT (t : Tun) : List UInt8 := headT t ++ (codeL t.l.toNat false ++ identR t.k t.s t.bs t.id)
/-- Root's bytes and Id out of what is left -/
def partsR (k : Int) (r : List UInt8) : List UInt8 × List UInt8 :=
  if k = 1 then (stepRest (stepRest (stepRest r 4) 2) 2, stepTaken r 4 ++ stepTaken (stepRest (stepRest r 4) 2) 2)
  else if k = 2 ∨ k = 7 then (stepTaken (stepRest (stepRest r 3) 1) (big (stepTaken (stepRest r 3) 1) : Nat), stepRest (stepRest (stepRest (stepRest r 3) 1) (big (stepTaken (stepRest r 3) 1) : Nat)) 2)
  else if k = 3 ∨ k = 4 ∨ k = 5 then (stepTaken r ((r.length / 2 : Nat) : Int), stepRest r ((r.length / 2 : Nat) : Int))
  else (r, [])
def leafPT (b : List UInt8) : Bool := decide (big (stepTaken b 1) = 1)
def kindR (b : List UInt8) : Nat := big (stepTaken (stepRest b 1) 1)
def numR (b : List UInt8) : Int := readN (stepTaken (stepRest (stepRest b 1) 1) 3)
def tailR (b : List UInt8) : List UInt8 := stepRest (stepRest (stepRest b 1) 1) 3
def readT (b : List UInt8) : Tun :=
  ⟨leafPT b, kindR b, numR b, ofS (partsR (kindR b) (tailR b)).1, ofB (partsR (kindR b) (tailR b)).1, (partsR (kindR b) (tailR b)).2⟩
def noneT : Tun := ⟨false, 0, 0, 0, zero16, []⟩
/-- are bytes just those of a tunnel that is right? -/
def parseB (b : List UInt8) : Bool := rightT (readT b) && decide (codeT (readT b) = b)
def parseT (b : List UInt8) : Tun := if parseB b then readT b else noneT
def parseE (b : List UInt8) : Int := if parseB b then 0 else 4

theorem ident_kind {k s : Int} {id : List UInt8} (h : identB k s id = true) : k = 0 ∨ k = 1 ∨ k = 2 ∨ k = 3 ∨ k = 4 ∨ k = 5 ∨ k = 6 ∨ k = 7 := by
  unfold identB at h
  by_cases h0 : k = 0
  · omega
  · by_cases h1 : k = 1
    · omega
    · by_cases h2 : k = 2 ∨ k = 7
      · omega
      · by_cases h3 : k = 3 ∨ k = 4 ∨ k = 5
        · omega
        · by_cases h6 : k = 6
          · omega
          · rw [if_neg h0, if_neg h1, if_neg h2, if_neg h3, if_neg h6] at h
            cases h
theorem sizeOf_right {s : Int} {bs : List UInt8} (h : rightA s bs = true) : s = 0 ∨ s = 4 ∨ s = 16 := by
  unfold rightA at h
  simp only [Bool.and_eq_true] at h
  exact of_decide_eq_true h.1
theorem padTake {s : Nat} {bs : List UInt8} (hl : bs.length = 16) (hs : s ≤ 16) (hz : (bs.drop s).all (· == 0) = true) : pad (bs.take s) = bs := by
  unfold pad
  have h1 : (bs.take s).length = s := by rw [List.length_take]; omega
  rw [h1]
  have h2 : bs.drop s = List.replicate (16 - s) 0 := by
    rw [List.eq_replicate_iff]
    refine ⟨by rw [List.length_drop, hl], fun b hb => ?_⟩
    rw [List.all_eq_true] at hz
    exact eq_of_beq (hz b hb)
  rw [← h2, List.take_append_drop]
/-- the bytes of an address that is right: how many, and what address they are -/
theorem bytesA_lenT {s : Int} {bs : List UInt8} (hl : bs.length = 16) (h : rightA s bs = true) : (bytesA s bs).length = s.toNat := by
  have := sizeOf_right h
  unfold bytesA
  rw [if_pos h, List.length_take]
  omega
theorem of_bytesA {s : Int} {bs : List UInt8} (hl : bs.length = 16) (h : rightA s bs = true) : ofS (bytesA s bs) = s ∧ ofB (bytesA s bs) = bs := by
  have h3 := sizeOf_right h
  have hn := bytesA_lenT hl h
  have hs : sizeA (bytesA s bs).length = true := by
    rw [hn]; unfold sizeA; exact decide_eq_true (by omega)
  unfold ofS ofB
  rw [if_pos hs, if_pos hs]
  refine ⟨by rw [hn]; omega, ?_⟩
  have hz : (bs.drop s.toNat).all (· == 0) = true := by
    unfold rightA at h
    simp only [Bool.and_eq_true] at h
    exact h.2
  unfold bytesA
  rw [if_pos h]
  exact padTake hl (by omega) hz
theorem stepTaken_len (bs : List UInt8) (n : Int) : (stepTaken bs n).length ≤ bs.length := by
  unfold stepTaken
  split
  · rw [List.length_take]; omega
  · simp
theorem stepRest_len (bs : List UInt8) (n : Int) : (stepRest bs n).length ≤ bs.length := by
  unfold stepRest
  split
  · rw [List.length_drop]; omega
  · simp
/-- Root and Id of an identifier -/
theorem parts_ident {k s : Int} {bs id : List UInt8} (hl : bs.length = 16) (hr : rightA s bs = true) (h : identB k s id = true) : partsR k (identR k s bs id) = (bytesA s bs, id) := by
  have hs := sizeOf_right hr
  have hn := bytesA_lenT hl hr
  have hk := ident_kind h
  unfold identB at h
  unfold partsR identR
  by_cases h1 : k = 1
  · subst h1
    simp only [Int.reduceEq, if_false, if_true, decide_eq_true_eq] at h
    rw [if_pos rfl, if_pos rfl]
    have h4 : (id.take 4).length = 4 := by rw [List.length_take]; omega
    have h2 : (id.drop 4).length = 2 := by rw [List.length_drop]; omega
    obtain ⟨a1, a2⟩ := step_app (xs := id.take 4) (ys := [0, 0] ++ (id.drop 4 ++ bytesA s bs)) (n := 4) (by rw [h4]; rfl)
    obtain ⟨b1, b2⟩ := step_app (xs := [0, 0]) (ys := id.drop 4 ++ bytesA s bs) (n := 2) rfl
    obtain ⟨c1, c2⟩ := step_app (xs := id.drop 4) (ys := bytesA s bs) (n := 2) (by rw [h2]; rfl)
    rw [a1, a2, b2, c1, c2, List.take_append_drop]
  · by_cases h2 : k = 2 ∨ k = 7
    · rw [if_neg h1, if_pos h2, if_neg h1, if_pos h2]
      obtain ⟨a1, a2⟩ := step_app (xs := [if k = 7 then 7 else 6, 0, if s = 16 then 2 else 1]) (ys := [UInt8.ofNat s.toNat] ++ (bytesA s bs ++ (be 2 id.length ++ id))) (n := 3) rfl
      have e0 : whichR k s ++ (bytesA s bs ++ (be 2 id.length ++ id)) = [if k = 7 then 7 else 6, 0, if s = 16 then 2 else 1] ++ ([UInt8.ofNat s.toNat] ++ (bytesA s bs ++ (be 2 id.length ++ id))) := rfl
      rw [e0, a2]
      obtain ⟨b1, b2⟩ := step_app (xs := [UInt8.ofNat s.toNat]) (ys := bytesA s bs ++ (be 2 id.length ++ id)) (n := 1) rfl
      rw [b1, b2]
      have hb : big [UInt8.ofNat s.toNat] = s.toNat := by rcases hs with rfl | rfl | rfl <;> rfl
      rw [hb]
      obtain ⟨c1, c2⟩ := step_app (xs := bytesA s bs) (ys := be 2 id.length ++ id) (n := (s.toNat : Nat)) (by rw [hn])
      obtain ⟨d1, d2⟩ := step_app (xs := be 2 id.length) (ys := id) (n := 2) (by rw [be_len]; rfl)
      rw [c1, c2, d2]
    · by_cases h3 : k = 3 ∨ k = 4 ∨ k = 5
      · rw [if_neg h1, if_neg h2, if_pos h3, if_neg h1, if_neg h2, if_pos h3]
        have h0 : ¬ k = 0 := by omega
        rw [if_neg h0, if_neg h1, if_neg h2, if_pos h3] at h
        simp only [Bool.and_eq_true, decide_eq_true_eq] at h
        have he : (bytesA s bs ++ id).length / 2 = (bytesA s bs).length := by
          rw [List.length_append]; omega
        rw [he]
        obtain ⟨c1, c2⟩ := step_app (xs := bytesA s bs) (ys := id) (n := ((bytesA s bs).length : Nat)) rfl
        rw [c1, c2]
      · rw [if_neg h1, if_neg h2, if_neg h3, if_neg h1, if_neg h2, if_neg h3]
        have hid : id = [] := by
          rcases (show k = 0 ∨ k = 6 by omega) with rfl | rfl
          · simp only [if_true, decide_eq_true_eq] at h
            exact List.eq_nil_of_length_eq_zero h.2
          · simp at h
            exact h.2
        rw [hid]
theorem code_head (t : Tun) (hk : 0 ≤ t.k ∧ t.k ≤ 7) (hl : 0 ≤ t.l ∧ t.l ≤ 1048575) : leafPT (codeT t) = t.leaf ∧ ((kindR (codeT t) : Nat) : Int) = t.k ∧ numR (codeT t) = t.l ∧ tailR (codeT t) = identR t.k t.s t.bs t.id := by
  obtain ⟨lf, k, l, s, bs, id⟩ := t
  simp only at hk hl
  obtain ⟨a1, a2⟩ := step_app (xs := [if lf then 1 else 0]) (ys := [UInt8.ofNat k.toNat] ++ (codeL l.toNat false ++ identR k s bs id)) (n := 1) rfl
  obtain ⟨b1, b2⟩ := step_app (xs := [UInt8.ofNat k.toNat]) (ys := codeL l.toNat false ++ identR k s bs id) (n := 1) rfl
  obtain ⟨c1, c2⟩ := step_app (xs := codeL l.toNat false) (ys := identR k s bs id) (n := 3) (by unfold codeL; rw [be_len]; rfl)
  have e0 : codeT ⟨lf, k, l, s, bs, id⟩ = [if lf then 1 else 0] ++ ([UInt8.ofNat k.toNat] ++ (codeL l.toNat false ++ identR k s bs id)) := rfl
  rw [e0]
  unfold leafPT kindR numR tailR
  rw [a1, a2, b1, b2, c1, c2]
  have hn : readN (codeL l.toNat false) = l := by
    have hb : big (codeL l.toNat false) = l.toNat * 16 := by
      unfold codeL
      rw [big_be 3 _ (by simp; omega)]
      simp
    have hok : readOk (codeL l.toNat false) = true := by
      unfold readOk
      rw [hb]
      exact decide_eq_true ⟨by unfold codeL; rw [be_len], by omega⟩
    rw [(read_yes hok).1, hb]
    omega
  refine ⟨?_, ?_, hn, rfl⟩
  · cases lf <;> rfl
  · rcases (show k = 0 ∨ k = 1 ∨ k = 2 ∨ k = 3 ∨ k = 4 ∨ k = 5 ∨ k = 6 ∨ k = 7 by omega) with rfl | rfl | rfl | rfl | rfl | rfl | rfl | rfl <;> rfl
/-- what is written is read -/
theorem read_code (t : Tun) (hl : t.bs.length = 16) (h : rightT t = true) : readT (codeT t) = t := by
  unfold rightT at h
  simp only [Bool.and_eq_true, decide_eq_true_eq] at h
  obtain ⟨h1, h2, h3⟩ := h
  have hk := ident_kind h3
  obtain ⟨a, b, c, d⟩ := code_head t (by omega) h1
  unfold readT
  rw [a, b, c, d, parts_ident hl h2 h3]
  simp only [(of_bytesA hl h2).1, (of_bytesA hl h2).2]
theorem parse_code (t : Tun) (hl : t.bs.length = 16) (h : rightT t = true) : parseB (codeT t) = true ∧ parseT (codeT t) = t ∧ parseE (codeT t) = 0 := by
  have h1 := read_code t hl h
  have h2 : parseB (codeT t) = true := by
    unfold parseB
    rw [h1, h]
    exact decide_eq_true rfl
  refine ⟨h2, ?_, ?_⟩
  · unfold parseT; rw [if_pos h2, h1]
  · unfold parseE; rw [if_pos h2]
theorem code_parse {b : List UInt8} (h : parseB b = true) : codeT (parseT b) = b ∧ rightT (parseT b) = true := by
  have h' := h
  unfold parseB at h'
  simp only [Bool.and_eq_true, decide_eq_true_eq] at h'
  unfold parseT
  rw [if_pos h]
  exact ⟨h'.2, h'.1⟩
theorem ofB_len (xs : List UInt8) : (ofB xs).length = 16 := by
  unfold ofB
  split
  · rename_i h
    have : xs.length ≤ 16 := by
      have h' : ((xs.length : Nat) : Int) = 0 ∨ ((xs.length : Nat) : Int) = 4 ∨ ((xs.length : Nat) : Int) = 16 := of_decide_eq_true h
      omega
    unfold pad
    rw [List.length_append, List.length_replicate]
    omega
  · rfl
theorem readT_bs (b : List UInt8) : (readT b).bs.length = 16 := ofB_len _
theorem parseT_bs (b : List UInt8) : (parseT b).bs.length = 16 := by
  unfold parseT
  split
  · exact readT_bs b
  · rfl
/-- the same, as Same tells -/
def sameT (a b : Tun) : Bool := decide (a.k = b.k ∧ (a.s = b.s ∧ a.bs = b.bs) ∧ a.id = b.id)
theorem code_drop (t : Tun) : (codeT t).drop 5 = identR t.k t.s t.bs t.id := by
  unfold codeT headT
  have h : (codeL t.l.toNat false).length = 3 := by unfold codeL; rw [be_len]
  rw [← List.append_assoc, List.drop_append_of_le_length (by simp [h]), List.drop_of_length_le (by simp [h])]
  rfl
theorem code_len (t : Tun) : 5 ≤ (codeT t).length := by
  unfold codeT headT
  have h : (codeL t.l.toNat false).length = 3 := by unfold codeL; rw [be_len]
  simp [h]
/-- of tunnels that are right those are the same whose bytes behind the first five are, of one Kind -/
theorem same_code {a b : Tun} (la : a.bs.length = 16) (lb : b.bs.length = 16) (ha : rightT a = true) (hb : rightT b = true) :
    sameT a b = decide (a.k = b.k ∧ (codeT a).drop 5 = (codeT b).drop 5) := by
  unfold rightT at ha hb
  simp only [Bool.and_eq_true, decide_eq_true_eq] at ha hb
  rw [code_drop, code_drop]
  unfold sameT
  rw [Bool.eq_iff_iff, decide_eq_true_eq, decide_eq_true_eq]
  constructor
  · rintro ⟨h1, ⟨h2, h3⟩, h4⟩
    exact ⟨h1, by rw [h1, h2, h3, h4]⟩
  · rintro ⟨h1, h2⟩
    have pa := parts_ident la ha.2.1 ha.2.2
    have pb := parts_ident lb hb.2.1 hb.2.2
    rw [h2, h1] at pa
    rw [pa] at pb
    injection pb with p1 p2
    have oa := of_bytesA la ha.2.1
    have ob := of_bytesA lb hb.2.1
    refine ⟨h1, ⟨?_, ?_⟩, p2⟩
    · rw [← oa.1, ← ob.1, p1]
    · rw [← oa.2, ← ob.2, p1]
/-- Root's bytes and Id out of what is left, as the document reads them -/
def partsD (k : Int) (r : List UInt8) : List UInt8 × List UInt8 :=
  if k = 1 then (stepTaken (stepRest (stepRest (stepRest r 4) 2) 2) 4, (stepTaken r 4 ++ stepTaken (stepRest (stepRest r 4) 2) 2) ++ stepRest (stepRest (stepRest (stepRest r 4) 2) 2) 4)
  else if k = 2 ∨ k = 7 then (stepTaken (stepRest (stepRest r 3) 1) (big (stepTaken (stepRest r 3) 1) : Nat), stepRest (stepRest (stepRest (stepRest r 3) 1) (big (stepTaken (stepRest r 3) 1) : Nat)) 2)
  else if k = 3 ∨ k = 4 ∨ k = 5 then (stepTaken r ((r.length / 2 : Nat) : Int), stepRest r ((r.length / 2 : Nat) : Int))
  else (r, [])
def readD (b : List UInt8) : Tun :=
  ⟨leafPT b, kindR b, numR b, ofS (partsD (kindR b) (tailR b)).1, ofB (partsD (kindR b) (tailR b)).1, (partsD (kindR b) (tailR b)).2⟩
def parseDB (b : List UInt8) : Bool := rightT (readD b) && decide (codeT (readD b) = b)
def parseD (b : List UInt8) : Tun := if parseDB b then readD b else noneT
def parseDE (b : List UInt8) : Int := if parseDB b then 0 else 4
theorem partsD_ident {k s : Int} {bs id : List UInt8} (hl : bs.length = 16) (hr : rightA s bs = true) (h : identB k s id = true) : partsD k (identR k s bs id) = (bytesA s bs, id) := by
  by_cases h1 : k = 1
  · have hp := parts_ident hl hr h
    have hn := bytesA_lenT hl hr
    subst h1
    have hs : s = 4 := by
      unfold identB at h
      simp only [Int.reduceEq, if_false, if_true, decide_eq_true_eq] at h
      exact h.1
    unfold partsR at hp
    unfold partsD
    rw [if_pos rfl] at hp ⊢
    injection hp with p1 p2
    rw [p1, p2]
    obtain ⟨c1, c2⟩ := step_app (xs := bytesA s bs) (ys := []) (n := 4) (by rw [hn, hs]; rfl)
    rw [List.append_nil] at c1 c2
    rw [c1, c2, List.append_nil]
  · have hp := parts_ident hl hr h
    unfold partsR at hp
    unfold partsD
    rw [if_neg h1] at hp ⊢
    exact hp
theorem readD_code (t : Tun) (hl : t.bs.length = 16) (h : rightT t = true) : readD (codeT t) = t := by
  unfold rightT at h
  simp only [Bool.and_eq_true, decide_eq_true_eq] at h
  obtain ⟨h1, h2, h3⟩ := h
  have hk := ident_kind h3
  obtain ⟨a, b, c, d⟩ := code_head t (by omega) h1
  unfold readD
  rw [a, b, c, d, partsD_ident hl h2 h3]
  simp only [(of_bytesA hl h2).1, (of_bytesA hl h2).2]
/-- both read the same -/
theorem parse_both (b : List UInt8) : parseDB b = parseB b ∧ parseD b = parseT b ∧ parseDE b = parseE b := by
  have hb : parseDB b = parseB b := by
    rw [Bool.eq_iff_iff]
    unfold parseDB parseB
    simp only [Bool.and_eq_true, decide_eq_true_eq]
    constructor
    · rintro ⟨h1, h2⟩
      have h3 := read_code _ (ofB_len _) h1
      rw [h2] at h3
      rw [h3]
      exact ⟨h1, h2⟩
    · rintro ⟨h1, h2⟩
      have h3 := readD_code _ (ofB_len _) h1
      rw [h2] at h3
      rw [h3]
      exact ⟨h1, h2⟩
  refine ⟨hb, ?_, ?_⟩
  · unfold parseD parseT
    rw [hb]
    by_cases h : parseB b = true
    · rw [if_pos h, if_pos h]
      have h' := h
      unfold parseB at h'
      simp only [Bool.and_eq_true, decide_eq_true_eq] at h'
      have h3 := readD_code _ (ofB_len _) h'.1
      rw [h'.2] at h3
      exact h3
    · rw [if_neg h, if_neg h]
  · unfold parseDE parseE
    rw [hb]
theorem readD_bs (b : List UInt8) : (readD b).bs.length = 16 := ofB_len _
end Go.Proofs.YtjhpikbilegfaaaGreatDoor
