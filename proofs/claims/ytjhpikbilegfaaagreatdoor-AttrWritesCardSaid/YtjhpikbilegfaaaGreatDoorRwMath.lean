/-
  Plain mathematics of attributes in bytes: what is written of some, and what is read of bytes. Nothing here speaks of the program.
-/
import Derived.Test.YtjhpikbilegfaaaGreatDoorMath
namespace Go.Proofs.YtjhpikbilegfaaaGreatDoor
set_option linter.unusedVariables false
set_option linter.unusedSimpArgs false

/-- an attribute as it came: flags, kind, value -/
structure Rw where
  f : Int
  k : Int
  v : List UInt8
/-- is the count to have two bytes? -/
def longF (f : Nat) : Bool := decide (f / 16 % 2 = 1)
def errRw (x : Rw) : Int := if x.f < 0 ∨ 255 < x.f ∨ longF x.f.toNat = true ∨ x.k < 0 ∨ 255 < x.k then 1 else if 4096 < x.v.length then 2 else 0
def codeRw (x : Rw) : List UInt8 :=
  if 255 < x.v.length then [UInt8.ofNat (x.f.toNat + 16), UInt8.ofNat x.k.toNat, UInt8.ofNat (x.v.length / 256), UInt8.ofNat x.v.length] ++ x.v
  else [UInt8.ofNat x.f.toNat, UInt8.ofNat x.k.toNat, UInt8.ofNat x.v.length] ++ x.v
/-- the bytes of some, one behind the other -/
def codeRws : List Rw → List UInt8
  | [] => []
  | x :: r => codeRw x ++ codeRws r
/-- the first error of some -/
def errRws : List Rw → Int
  | [] => 0
  | x :: r => if errRw x = 0 then errRws r else errRw x
def joinE (l : List Rw) : Int := if 64 < l.length then 2 else errRws l
def joinB (l : List Rw) : List UInt8 := if joinE l = 0 then codeRws l else []
theorem codeRws_append : ∀ a b : List Rw, codeRws (a ++ b) = codeRws a ++ codeRws b
  | [], _ => rfl
  | x :: a, b => by show codeRw x ++ codeRws (a ++ b) = codeRw x ++ codeRws a ++ codeRws b; rw [codeRws_append a b, List.append_assoc]
theorem codeRws_one (x : Rw) : codeRws [x] = codeRw x := by show codeRw x ++ [] = codeRw x; simp
theorem codeRws_next {l : List Rw} {k : Nat} {m : Rw} (h : l[k]? = some m) : codeRws (l.take k) ++ codeRw m = codeRws (l.take (k + 1)) := by
  rw [List.take_add_one, h, codeRws_append]
  show _ = _ ++ codeRws [m]
  rw [codeRws_one]
theorem errRws_append : ∀ a b : List Rw, errRws (a ++ b) = if errRws a = 0 then errRws b else errRws a
  | [], b => by simp [errRws]
  | x :: a, b => by
    show (if errRw x = 0 then errRws (a ++ b) else errRw x) = _
    rw [errRws_append a b]
    show _ = if (if errRw x = 0 then errRws a else errRw x) = 0 then _ else (if errRw x = 0 then errRws a else errRw x)
    by_cases h : errRw x = 0
    · simp [h]
    · simp [h]
theorem errRws_zero : ∀ {l : List Rw}, errRws l = 0 ↔ ∀ x ∈ l, errRw x = 0
  | [] => by simp [errRws]
  | x :: r => by
    show (if errRw x = 0 then errRws r else errRw x) = 0 ↔ _
    have ih := @errRws_zero r
    by_cases h : errRw x = 0
    · simp [h, ih]
    · simp [h]
/-- the first with an error, and none ahead of it: its error is the row's -/
theorem errRws_first {l : List Rw} {k : Nat} {x : Rw} (h0 : errRws (l.take k) = 0) (hx : l[k]? = some x) (hb : errRw x ≠ 0) : errRws l = errRw x := by
  have h : l = l.take k ++ x :: l.drop (k + 1) := by
    have hk : k < l.length := (List.getElem?_eq_some_iff.1 hx).1
    have h1 : l.drop k = x :: l.drop (k + 1) := by
      rw [List.drop_eq_getElem_cons hk, (List.getElem?_eq_some_iff.1 hx).2]
    rw [← h1, List.take_append_drop]
  rw [h, errRws_append, if_pos h0]
  show (if errRw x = 0 then _ else errRw x) = _
  rw [if_neg hb]
theorem errRws_next {l : List Rw} {k : Nat} {x : Rw} (h0 : errRws (l.take k) = 0) (hx : l[k]? = some x) (hb : errRw x = 0) : errRws (l.take (k + 1)) = 0 := by
  rw [List.take_add_one, hx, errRws_append, if_pos h0]
  show (if errRw x = 0 then _ else errRw x) = _
  rw [if_pos hb]
  rfl
/-! ### reading -/
def flgB (b : List UInt8) : Nat := (b.getD 0 0).toNat
def sizB (b : List UInt8) : Nat := if longF (flgB b) = true then 2 else 1
def cntB (b : List UInt8) : Nat := big ((b.drop 2).take (sizB b))
def lenB (b : List UInt8) : Nat := 2 + sizB b + cntB b
/-- does a whole attribute stand at the front? -/
def fitB (b : List UInt8) : Bool := decide (2 + sizB b ≤ b.length ∧ lenB b ≤ b.length)
def rawB (b : List UInt8) : Rw := ⟨((if longF (flgB b) = true then flgB b - 16 else flgB b : Nat) : Int), ((b.getD 1 0).toNat : Int), (b.drop (2 + sizB b)).take (cntB b)⟩
def splitF : Nat → List UInt8 → List Rw × Int
  | 0, b => if b = [] then ([], 0) else ([], 2)
  | c + 1, b => if b = [] then ([], 0) else if fitB b = true then (if (splitF c (b.drop (lenB b))).2 = 0 then (rawB b :: (splitF c (b.drop (lenB b))).1, 0) else ([], (splitF c (b.drop (lenB b))).2)) else ([], 3)
def splitA (b : List UInt8) : List Rw × Int := splitF 64 b
theorem sizB_pos (b : List UInt8) : 1 ≤ sizB b ∧ sizB b ≤ 2 := by unfold sizB; split <;> omega
theorem lenB_pos (b : List UInt8) : 3 ≤ lenB b := by have := sizB_pos b; unfold lenB; omega
theorem splitF_nil (c : Nat) : splitF c [] = ([], 0) := by cases c <;> simp [splitF]
theorem splitF_err : ∀ (c : Nat) (b : List UInt8), (splitF c b).2 ≠ 0 → (splitF c b).1 = []
  | 0, b, h => by unfold splitF at h ⊢; split <;> rfl
  | c + 1, b, h => by
    unfold splitF at h ⊢
    by_cases h1 : b = []
    · rw [if_pos h1]
    · rw [if_neg h1] at h ⊢
      by_cases h2 : fitB b = true
      · rw [if_pos h2] at h ⊢
        by_cases h3 : (splitF c (b.drop (lenB b))).2 = 0
        · rw [if_pos h3] at h
          exact absurd rfl h
        · rw [if_neg h3]
      · rw [if_neg h2]
theorem longF_lt {f : Nat} (h : longF f = false) (hf : f ≤ 255) : longF (f + 16) = true ∧ f + 16 ≤ 255 := by
  have h1 : ¬ (f / 16 % 2 = 1) := of_decide_eq_false h
  refine ⟨decide_eq_true (by omega), by omega⟩
theorem longF_sub {f : Nat} (h : longF f = true) : longF (f - 16) = false ∧ 16 ≤ f := by
  have h1 : f / 16 % 2 = 1 := of_decide_eq_true h
  refine ⟨decide_eq_false (by omega), by omega⟩
theorem u8rw_of {n : Nat} (h : n < 256) : (UInt8.ofNat n).toNat = n := by simp [UInt8.toNat_ofNat']; omega
theorem u8rw_mod (n : Nat) : (UInt8.ofNat n).toNat = n % 256 := by simp [UInt8.toNat_ofNat']
/-- what is written stands at the front, whatever comes behind it -/
theorem code_front {x : Rw} (h : errRw x = 0) (r : List UInt8) : fitB (codeRw x ++ r) = true ∧ rawB (codeRw x ++ r) = x ∧ lenB (codeRw x ++ r) = (codeRw x).length := by
  have hx : ¬ (x.f < 0 ∨ 255 < x.f ∨ longF x.f.toNat = true ∨ x.k < 0 ∨ 255 < x.k) := by
    intro e
    unfold errRw at h
    rw [if_pos e] at h
    exact absurd h (by decide)
  have hv : ¬ (4096 < x.v.length) := by
    intro e
    unfold errRw at h
    rw [if_neg hx, if_pos e] at h
    exact absurd h (by decide)
  obtain ⟨f, k, v⟩ := x
  dsimp only at hx hv
  have hlf : longF f.toNat = false := by
    cases h9 : longF f.toNat
    · rfl
    · exact absurd (.inr (.inr (.inl h9))) hx
  obtain ⟨a, rfl⟩ : ∃ a : Nat, f = a := ⟨f.toNat, by omega⟩
  obtain ⟨c, rfl⟩ : ∃ c : Nat, k = c := ⟨k.toNat, by omega⟩
  rw [Int.toNat_natCast] at hlf
  have ha : a ≤ 255 := by omega
  have hc : c ≤ 255 := by omega
  by_cases hl : 255 < v.length
  · have hcode : codeRw ⟨a, c, v⟩ = [UInt8.ofNat (a + 16), UInt8.ofNat c, UInt8.ofNat (v.length / 256), UInt8.ofNat v.length] ++ v := by unfold codeRw; rw [if_pos hl]; rfl
    obtain ⟨h1, h2⟩ := longF_lt hlf ha
    have hf : flgB (codeRw ⟨a, c, v⟩ ++ r) = a + 16 := by rw [hcode]; show (UInt8.ofNat (a + 16)).toNat = _; exact u8rw_of (by omega)
    have hsz : sizB (codeRw ⟨a, c, v⟩ ++ r) = 2 := by unfold sizB; rw [hf, if_pos h1]
    have hcn : cntB (codeRw ⟨a, c, v⟩ ++ r) = v.length := by
      unfold cntB
      rw [hsz, hcode]
      show big [UInt8.ofNat (v.length / 256), UInt8.ofNat v.length] = _
      unfold big
      simp only [List.foldl_cons, List.foldl_nil, u8rw_mod]
      omega
    have hln : lenB (codeRw ⟨a, c, v⟩ ++ r) = (codeRw ⟨a, c, v⟩).length := by unfold lenB; rw [hsz, hcn, hcode]; simp; omega
    refine ⟨?_, ?_, hln⟩
    · unfold fitB
      rw [hln, hsz, hcode]
      refine decide_eq_true ⟨by simp <;> omega, by simp⟩
    · unfold rawB
      rw [hf, if_pos h1, hsz, hcn, hcode]
      have e1 : (([UInt8.ofNat (a + 16), UInt8.ofNat c, UInt8.ofNat (v.length / 256), UInt8.ofNat v.length] ++ v ++ r).getD 1 0).toNat = c := u8rw_of (by omega)
      have e2 : (([UInt8.ofNat (a + 16), UInt8.ofNat c, UInt8.ofNat (v.length / 256), UInt8.ofNat v.length] ++ v ++ r).drop (2 + 2)).take v.length = v := by
        show (v ++ r).take v.length = v
        simp
      rw [e1, e2, Nat.add_sub_cancel]
  · have hcode : codeRw ⟨a, c, v⟩ = [UInt8.ofNat a, UInt8.ofNat c, UInt8.ofNat v.length] ++ v := by unfold codeRw; rw [if_neg hl]; rfl
    have hf : flgB (codeRw ⟨a, c, v⟩ ++ r) = a := by rw [hcode]; show (UInt8.ofNat a).toNat = _; exact u8rw_of (by omega)
    have hn : ¬ (longF a = true) := by rw [hlf]; decide
    have hsz : sizB (codeRw ⟨a, c, v⟩ ++ r) = 1 := by unfold sizB; rw [hf, if_neg hn]
    have hcn : cntB (codeRw ⟨a, c, v⟩ ++ r) = v.length := by
      unfold cntB
      rw [hsz, hcode]
      show big [UInt8.ofNat v.length] = _
      unfold big
      simp only [List.foldl_cons, List.foldl_nil, u8rw_mod]
      omega
    have hln : lenB (codeRw ⟨a, c, v⟩ ++ r) = (codeRw ⟨a, c, v⟩).length := by unfold lenB; rw [hsz, hcn, hcode]; simp; omega
    refine ⟨?_, ?_, hln⟩
    · unfold fitB
      rw [hln, hsz, hcode]
      refine decide_eq_true ⟨by simp <;> omega, by simp⟩
    · unfold rawB
      rw [hf, if_neg hn, hsz, hcn, hcode]
      have e1 : (([UInt8.ofNat a, UInt8.ofNat c, UInt8.ofNat v.length] ++ v ++ r).getD 1 0).toNat = c := u8rw_of (by omega)
      have e2 : (([UInt8.ofNat a, UInt8.ofNat c, UInt8.ofNat v.length] ++ v ++ r).drop (2 + 1)).take v.length = v := by
        show (v ++ r).take v.length = v
        simp
      rw [e1, e2]
theorem codeRw_pos (x : Rw) : 3 ≤ (codeRw x).length := by unfold codeRw; split <;> simp <;> omega
/-- what is joined is split again -/
theorem split_code : ∀ (c : Nat) (l : List Rw), errRws l = 0 → l.length ≤ c → splitF c (codeRws l) = (l, 0)
  | c, [], _, _ => splitF_nil c
  | 0, x :: r, _, h => by simp at h
  | c + 1, x :: r, h, hl => by
    have hx : errRw x = 0 := errRws_zero.1 h x (by simp)
    have hr : errRws r = 0 := errRws_zero.2 (fun y hy => errRws_zero.1 h y (by simp [hy]))
    obtain ⟨h1, h2, h3⟩ := code_front hx (codeRws r)
    have ih := split_code c r hr (by simp at hl; omega)
    have hne : ¬ (codeRw x ++ codeRws r = []) := fun e => by
      have h9 := congrArg List.length e
      rw [List.length_append] at h9
      have h8 := codeRw_pos x
      have h7 : ([] : List UInt8).length = 0 := rfl
      omega
    show splitF (c + 1) (codeRw x ++ codeRws r) = _
    unfold splitF
    rw [if_neg hne, if_pos h1, h3, List.drop_left, ih, h2]
    rfl
theorem split_join {l : List Rw} (h : joinE l = 0) : splitA (joinB l) = (l, 0) := by
  unfold joinB
  rw [if_pos h]
  unfold joinE at h
  by_cases hl : 64 < l.length
  · rw [if_pos hl] at h
    exact absurd h (by decide)
  · rw [if_neg hl] at h
    exact split_code 64 l h (by omega)
/-- what was read may be written, but for values that are too long, in no more bytes -/
theorem raw_good {b : List UInt8} (h : fitB b = true) : (errRw (rawB b) = 0 ∨ errRw (rawB b) = 2) ∧ (codeRw (rawB b)).length ≤ lenB b ∧ (rawB b).v.length = cntB b ∧ (0 ≤ (rawB b).f ∧ (rawB b).f ≤ 255) ∧ (0 ≤ (rawB b).k ∧ (rawB b).k ≤ 255) := by
  obtain ⟨h1, h2⟩ := of_decide_eq_true h
  have hf : flgB b ≤ 255 := by have := (b.getD 0 0).toNat_lt; unfold flgB; omega
  have hk : (b.getD 1 0).toNat ≤ 255 := by have := (b.getD 1 0).toNat_lt; omega
  have hv : (rawB b).v.length = cntB b := by
    show ((b.drop (2 + sizB b)).take (cntB b)).length = _
    rw [List.length_take, List.length_drop]
    unfold lenB at h2
    omega
  have hF : (0 ≤ (rawB b).f ∧ (rawB b).f ≤ 255) := by
    show 0 ≤ ((if longF (flgB b) = true then flgB b - 16 else flgB b : Nat) : Int) ∧ ((if longF (flgB b) = true then flgB b - 16 else flgB b : Nat) : Int) ≤ 255
    split <;> omega
  have hL : longF (rawB b).f.toNat = false := by
    show longF (((if longF (flgB b) = true then flgB b - 16 else flgB b : Nat) : Int)).toNat = false
    rw [Int.toNat_natCast]
    cases h9 : longF (flgB b)
    · simpa using h9
    · simpa using (longF_sub h9).1
  have hK : (0 ≤ (rawB b).k ∧ (rawB b).k ≤ 255) := by
    show 0 ≤ (((b.getD 1 0).toNat : Nat) : Int) ∧ (((b.getD 1 0).toNat : Nat) : Int) ≤ 255
    omega
  refine ⟨?_, ?_, hv, hF, hK⟩
  · unfold errRw
    rw [if_neg (by rw [hL]; intro e; rcases e with e | e | e | e | e <;> first | omega | exact absurd e (by decide))]
    split
    · exact .inr rfl
    · exact .inl rfl
  · have hs := sizB_pos b
    unfold codeRw
    rw [hv]
    split
    · rename_i h9
      have h10 : sizB b = 2 := by
        by_cases h11 : sizB b = 1
        · exfalso
          have h12 := big_lt ((b.drop 2).take (sizB b))
          have h13 : ((b.drop 2).take (sizB b)).length = 1 := by rw [List.length_take, List.length_drop]; omega
          rw [h13] at h12
          unfold cntB at h9
          omega
        · omega
      rw [List.length_append, hv]
      unfold lenB
      simp
      omega
    · rw [List.length_append, hv]
      unfold lenB
      simp
      omega
theorem splitF_good : ∀ (c : Nat) (b : List UInt8), (splitF c b).2 = 0 → (splitF c b).1.length ≤ c ∧ (∀ x ∈ (splitF c b).1, errRw x = 0 ∨ errRw x = 2) ∧ (codeRws (splitF c b).1).length ≤ b.length
  | 0, b, h => by
    by_cases h1 : b = []
    · subst h1
      exact ⟨Nat.le_refl _, fun x hx => absurd hx (by simp [splitF]), Nat.le_refl _⟩
    · unfold splitF at h
      rw [if_neg h1] at h
      exact absurd h (by decide)
  | c + 1, b, h => by
    by_cases h1 : b = []
    · subst h1
      rw [splitF_nil]
      exact ⟨Nat.zero_le _, fun x hx => absurd hx (by simp), Nat.le_refl _⟩
    · unfold splitF at h ⊢
      rw [if_neg h1] at h ⊢
      by_cases h2 : fitB b = true
      · rw [if_pos h2] at h ⊢
        by_cases h3 : (splitF c (b.drop (lenB b))).2 = 0
        · rw [if_pos h3]
          obtain ⟨i1, i2, i3⟩ := splitF_good c (b.drop (lenB b)) h3
          obtain ⟨g1, g2, _⟩ := raw_good h2
          have hlb := (of_decide_eq_true h2).2
          refine ⟨by simp; exact i1, ?_, ?_⟩
          · intro x hx
            rcases List.mem_cons.1 hx with rfl | hx
            · exact g1
            · exact i2 x hx
          · show (codeRw (rawB b) ++ codeRws (splitF c (b.drop (lenB b))).1).length ≤ _
            rw [List.length_append]
            rw [List.length_drop] at i3
            omega
        · rw [if_neg h3] at h
          exact absurd h h3
      · rw [if_neg h2] at h
        exact absurd h (by decide)
theorem errRws_two : ∀ {l : List Rw}, (∀ x ∈ l, errRw x = 0 ∨ errRw x = 2) → errRws l = 0 ∨ errRws l = 2
  | [], _ => .inl rfl
  | x :: r, h => by
    show (if errRw x = 0 then errRws r else errRw x) = 0 ∨ (if errRw x = 0 then errRws r else errRw x) = 2
    rcases h x (by simp) with h1 | h1
    · rw [if_pos h1]
      exact errRws_two (fun y hy => h y (by simp [hy]))
    · rw [if_neg (by rw [h1]; decide)]
      exact .inr h1
/-- what was split is joined, if no value is too long; the same is read of it, and it is no longer -/
theorem join_split {b : List UInt8} (h : (splitA b).2 = 0) : (joinE (splitA b).1 = 0 ∨ joinE (splitA b).1 = 2) ∧ (joinE (splitA b).1 = 0 → (joinB (splitA b).1).length ≤ b.length) := by
  obtain ⟨h1, h2, h3⟩ := splitF_good 64 b h
  have h4 : joinE (splitA b).1 = errRws (splitA b).1 := by
    unfold joinE
    rw [if_neg (by show ¬ (64 < (splitF 64 b).1.length); omega)]
  refine ⟨by rw [h4]; exact errRws_two h2, fun e => ?_⟩
  unfold joinB
  rw [if_pos e]
  exact h3
/-- how far a split is: as many are read, up to there -/
structure SplitTo (b : List UInt8) (l : List Rw) (p : Nat) : Prop where
  hn : l.length ≤ 64
  hp : p ≤ b.length
  he : splitA b = if (splitF (64 - l.length) (b.drop p)).2 = 0 then (l ++ (splitF (64 - l.length) (b.drop p)).1, 0) else ([], (splitF (64 - l.length) (b.drop p)).2)
theorem SplitTo.start (b : List UInt8) : SplitTo b [] 0 := by
  refine ⟨by decide, Nat.zero_le _, ?_⟩
  rw [List.drop_zero]
  show splitF 64 b = if (splitF 64 b).2 = 0 then ([] ++ (splitF 64 b).1, 0) else ([], (splitF 64 b).2)
  by_cases h : (splitF 64 b).2 = 0
  · rw [if_pos h, List.nil_append, ← h]
  · rw [if_neg h, ← splitF_err _ _ h]
theorem SplitTo.done {b : List UInt8} {l : List Rw} {p : Nat} (h : SplitTo b l p) (hp : b.length ≤ p) : splitA b = (l, 0) := by
  have h1 := h.he
  rw [List.drop_of_length_le hp, splitF_nil] at h1
  rw [h1, if_pos rfl, List.append_nil]
theorem SplitTo.full {b : List UInt8} {l : List Rw} {p : Nat} (h : SplitTo b l p) (hp : p < b.length) (hl : l.length = 64) : splitA b = ([], 2) := by
  have h1 := h.he
  have hne : ¬ (b.drop p = []) := fun e => by have := congrArg List.length e; simp at this; omega
  have h2 : splitF (64 - l.length) (b.drop p) = ([], 2) := by
    rw [hl]
    show (if b.drop p = [] then _ else _) = _
    rw [if_neg hne]
  rw [h1, h2, if_neg (by decide)]
theorem SplitTo.bad {b : List UInt8} {l : List Rw} {p : Nat} (h : SplitTo b l p) (hp : p < b.length) (hl : l.length < 64) (hf : fitB (b.drop p) = false) : splitA b = ([], 3) := by
  have h1 := h.he
  have hne : ¬ (b.drop p = []) := fun e => by have := congrArg List.length e; simp at this; omega
  obtain ⟨q, hq⟩ : ∃ q, 64 - l.length = q + 1 := ⟨63 - l.length, by omega⟩
  have h2 : splitF (64 - l.length) (b.drop p) = ([], 3) := by
    rw [hq]
    show (if b.drop p = [] then _ else if fitB (b.drop p) = true then _ else _) = _
    rw [if_neg hne, if_neg (by rw [hf]; decide)]
  rw [h1, h2, if_neg (by decide)]
theorem SplitTo.next {b : List UInt8} {l : List Rw} {p : Nat} (h : SplitTo b l p) (hp : p < b.length) (hl : l.length < 64) (hf : fitB (b.drop p) = true) : SplitTo b (l ++ [rawB (b.drop p)]) (p + lenB (b.drop p)) := by
  have h1 := h.he
  have hne : ¬ (b.drop p = []) := fun e => by have := congrArg List.length e; simp at this; omega
  obtain ⟨q, hq⟩ : ∃ q, 64 - l.length = q + 1 := ⟨63 - l.length, by omega⟩
  have hq2 : 64 - (l ++ [rawB (b.drop p)]).length = q := by simp; omega
  have hlb := (of_decide_eq_true hf).2
  rw [List.length_drop] at hlb
  refine ⟨by simp; omega, by omega, ?_⟩
  rw [hq2, ← List.drop_drop]
  rw [h1, hq]
  have h2 : splitF (q + 1) (b.drop p) = if (splitF q ((b.drop p).drop (lenB (b.drop p)))).2 = 0 then (rawB (b.drop p) :: (splitF q ((b.drop p).drop (lenB (b.drop p)))).1, 0) else ([], (splitF q ((b.drop p).drop (lenB (b.drop p)))).2) := by
    show (if b.drop p = [] then _ else if fitB (b.drop p) = true then _ else _) = _
    rw [if_neg hne, if_pos hf]
  rw [h2]
  by_cases h3 : (splitF q ((b.drop p).drop (lenB (b.drop p)))).2 = 0
  · rw [if_pos h3, if_pos rfl, if_pos h3, List.append_assoc]
    rfl
  · rw [if_neg h3, if_neg h3, if_neg h3]
end Go.Proofs.YtjhpikbilegfaaaGreatDoor
