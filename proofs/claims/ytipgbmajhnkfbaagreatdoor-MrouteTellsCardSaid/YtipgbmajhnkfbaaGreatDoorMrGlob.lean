/-
  Plain mathematics of layer 7's program: how it writes a route, how it reads one, and that a route is right just if it says so. Nothing here speaks of the program's text.
  What names and known of package mroute do: which parts a kind names, out of the program's table. The one condition: the table holds what its text lays.
-/
import Derived.Test.YtipgbmajhnkfbaaGreatDoorMrV
import Derived.Deep.MidRow
namespace Go.Proofs.YtipgbmajhnkfbaaGreatDoor
set_option linter.unusedVariables false
set_option linter.unusedSimpArgs false
def kwn (k : Int) : Bool := decide (1 ≤ k ∧ k ≤ 7)
def pRd (k : Int) : Bool := kwn k && nRd k
def partsK (k : Int) : List Bool := [pRd k, nAs k, nAd k, nAd k, decide (k = 4), nFr k]
def withP (s : Int) (bs : List UInt8) : List UInt8 := UInt8.ofNat (8 * (bytesA s bs).length) :: bytesA s bs
def wrP (m : Mr) : Nat → List UInt8
  | 0 => m.rd
  | 1 => putOut [] m.a 4
  | 2 => withP m.ss m.sb
  | 3 => withP m.gs m.gb
  | 4 => m.key
  | 5 => bytesA m.fs m.fb
  | _ => []
def wrK (m : Mr) : Nat → List UInt8
  | 0 => []
  | j + 1 => wrK m j ++ (if (partsK m.k).getD j false then wrP m j else [])
def bodyP (m : Mr) : List UInt8 := wrK m 6
def writeP (m : Mr) : List UInt8 := UInt8.ofNat m.k.toNat :: UInt8.ofNat (bodyP m).length :: bodyP m
def rdA (b : List UInt8) : Int × List UInt8 := (ofS (stepTaken (numRest b 1) ((numVal b 1 / 8 : Nat) : Int)), ofB (stepTaken (numRest b 1) ((numVal b 1 / 8 : Nat) : Int)))
def rdAr (b : List UInt8) : List UInt8 := stepRest (numRest b 1) ((numVal b 1 / 8 : Nat) : Int)
def rdKy (b : List UInt8) : List UInt8 := [UInt8.ofNat (numVal b 1), UInt8.ofNat (numVal (numRest b 1) 1)] ++ stepTaken (numRest (numRest b 1) 1) (numVal (numRest b 1) 1 : Nat)
def rdKr (b : List UInt8) : List UInt8 := stepRest (numRest (numRest b 1) 1) (numVal (numRest b 1) 1 : Nat)
def rdP (m : Mr) (b : List UInt8) : Nat → Mr × List UInt8
  | 0 => ({ m with rd := pad8 (stepTaken b 8) }, stepRest b 8)
  | 1 => ({ m with a := (numVal b 4 : Nat) }, numRest b 4)
  | 2 => ({ m with ss := (rdA b).1, sb := (rdA b).2 }, rdAr b)
  | 3 => ({ m with gs := (rdA b).1, gb := (rdA b).2 }, rdAr b)
  | 4 => ({ m with key := rdKy b }, rdKr b)
  | 5 => ({ m with fs := ofS b, fb := ofB b }, [])
  | _ => (m, b)
def bareM (k : Int) : Mr := ⟨k, zero8, 0, 0, zero16, 0, zero16, 0, zero16, []⟩
def rdK (k : Int) (b : List UInt8) : Nat → Mr × List UInt8
  | 0 => (bareM k, b)
  | j + 1 => if (partsK k).getD j false then rdP (rdK k b j).1 (rdK k b j).2 j else rdK k b j
def readP (b : List UInt8) : Mr := (rdK (numVal b 1 : Nat) (numRest (numRest b 1) 1) 6).1
theorem ofB_len16 (x : List UInt8) : (ofB x).length = 16 := by
  unfold ofB
  split
  · rename_i h
    have := of_decide_eq_true h
    exact pad_len (by omega)
  · rfl
theorem ofA_right (x : List UInt8) : rightA (ofS x) (ofB x) = true := by
  by_cases h : sizeA ((x.length : Nat) : Int) = true
  · exact (of_right x h).1
  · unfold ofS ofB
    rw [if_neg h, if_neg h]
    decide +kernel
theorem numVal_lt (b : List UInt8) {n : Nat} (hn : n ≤ 4) : numVal b n < 4294967296 := by
  unfold numVal
  split
  · have : stepTaken b (n : Int) = (stepTaken b (n : Int)).take n := by
      unfold stepTaken
      split
      · rw [Int.toNat_natCast, List.take_take, Nat.min_self]
      · simp
    rw [this]
    exact big_take_lt hn
  · omega
theorem numVal_1 (b : List UInt8) : numVal b 1 < 256 := by
  unfold numVal
  rw [if_pos (by decide)]
  have h := big_lt (stepTaken b 1)
  have : (stepTaken b 1).length ≤ 1 := by
    unfold stepTaken; split
    · rw [List.length_take]; simp; omega
    · simp
  exact Nat.lt_of_lt_of_le h (by
    have h2 : 256 ^ (stepTaken b 1).length ≤ 256 ^ 1 := Nat.pow_le_pow_right (by omega) this
    simpa using h2)
structure RdOk (k : Int) (j : Nat) (m : Mr) : Prop where
  kk : m.k = k
  w : m.W
  rd : (pRd k = false ∨ j ≤ 0) → m.rd = zero8
  as0 : (nAs k = false ∨ j ≤ 1) → m.a = 0
  src : (nAd k = false ∨ j ≤ 2) → m.ss = 0 ∧ m.sb = zero16
  grp : (nAd k = false ∨ j ≤ 3) → m.gs = 0 ∧ m.gb = zero16
  key : (k ≠ 4 ∨ j ≤ 4) → m.key = []
  fr0 : (nFr k = false ∨ j ≤ 5) → m.fs = 0 ∧ m.fb = zero16
  a0 : 0 ≤ m.a
  a32 : m.a ≤ 4294967295
  s : rightA m.ss m.sb = true
  g : rightA m.gs m.gb = true
  f : rightA m.fs m.fb = true
theorem right_zero16 : rightA 0 zero16 = true := by decide +kernel
theorem rdK_ok (k : Int) (b : List UInt8) : ∀ j, j ≤ 6 → RdOk k j (rdK k b j).1 := by
  intro j
  induction j with
  | zero => exact fun _ => ⟨rfl, ⟨rfl, rfl, rfl, rfl⟩, fun _ => rfl, fun _ => rfl, fun _ => ⟨rfl, rfl⟩, fun _ => ⟨rfl, rfl⟩, fun _ => rfl, fun _ => ⟨rfl, rfl⟩, show (0 : Int) ≤ 0 by decide, show (0 : Int) ≤ 4294967295 by decide, right_zero16, right_zero16, right_zero16⟩
  | succ j ih =>
    intro hj
    have h := ih (by omega)
    have hv := numVal_lt (rdK k b j).2 (n := 4) (by omega)
    rw [rdK]
    rcases (show j = 0 ∨ j = 1 ∨ j = 2 ∨ j = 3 ∨ j = 4 ∨ j = 5 by omega) with rfl | rfl | rfl | rfl | rfl | rfl
    · cases hc : pRd k with
      | true =>
        rw [if_pos (show (partsK k).getD 0 false = true from hc)]
        exact ⟨h.kk, ⟨pad8_len _, h.w.sb, h.w.gb, h.w.fb⟩, fun e => by rw [hc] at e; simp at e, fun e => h.as0 (e.imp id (by omega)), fun e => h.src (e.imp id (by omega)), fun e => h.grp (e.imp id (by omega)), fun e => h.key (e.imp id (by omega)), fun e => h.fr0 (e.imp id (by omega)), h.a0, h.a32, h.s, h.g, h.f⟩
      | false =>
        rw [if_neg (show ¬ (partsK k).getD 0 false = true by show ¬ pRd k = true; rw [hc]; decide)]
        exact ⟨h.kk, h.w, fun _ => h.rd (.inl hc), fun e => h.as0 (e.imp id (by omega)), fun e => h.src (e.imp id (by omega)), fun e => h.grp (e.imp id (by omega)), fun e => h.key (e.imp id (by omega)), fun e => h.fr0 (e.imp id (by omega)), h.a0, h.a32, h.s, h.g, h.f⟩
    · cases hc : nAs k with
      | true =>
        rw [if_pos (show (partsK k).getD 1 false = true from hc)]
        exact ⟨h.kk, ⟨h.w.rd, h.w.sb, h.w.gb, h.w.fb⟩, fun e => h.rd (.inl (e.resolve_right (by omega))), fun e => by rw [hc] at e; simp at e, fun e => h.src (e.imp id (by omega)), fun e => h.grp (e.imp id (by omega)), fun e => h.key (e.imp id (by omega)), fun e => h.fr0 (e.imp id (by omega)), by simp only [rdP]; omega, by simp only [rdP]; have e4 : ((4 : Nat) : Int) = 4 := rfl; rw [e4] at hv; omega, h.s, h.g, h.f⟩
      | false =>
        rw [if_neg (show ¬ (partsK k).getD 1 false = true by show ¬ nAs k = true; rw [hc]; decide)]
        exact ⟨h.kk, h.w, fun e => h.rd (.inl (e.resolve_right (by omega))), fun _ => h.as0 (.inl hc), fun e => h.src (e.imp id (by omega)), fun e => h.grp (e.imp id (by omega)), fun e => h.key (e.imp id (by omega)), fun e => h.fr0 (e.imp id (by omega)), h.a0, h.a32, h.s, h.g, h.f⟩
    · cases hc : nAd k with
      | true =>
        rw [if_pos (show (partsK k).getD 2 false = true from hc)]
        exact ⟨h.kk, ⟨h.w.rd, ofB_len16 _, h.w.gb, h.w.fb⟩, fun e => h.rd (.inl (e.resolve_right (by omega))), fun e => h.as0 (.inl (e.resolve_right (by omega))), fun e => by rw [hc] at e; simp at e, fun e => h.grp (e.imp id (by omega)), fun e => h.key (e.imp id (by omega)), fun e => h.fr0 (e.imp id (by omega)), h.a0, h.a32, ofA_right _, h.g, h.f⟩
      | false =>
        rw [if_neg (show ¬ (partsK k).getD 2 false = true by show ¬ nAd k = true; rw [hc]; decide)]
        exact ⟨h.kk, h.w, fun e => h.rd (.inl (e.resolve_right (by omega))), fun e => h.as0 (.inl (e.resolve_right (by omega))), fun _ => h.src (.inl hc), fun e => h.grp (e.imp id (by omega)), fun e => h.key (e.imp id (by omega)), fun e => h.fr0 (e.imp id (by omega)), h.a0, h.a32, h.s, h.g, h.f⟩
    · cases hc : nAd k with
      | true =>
        rw [if_pos (show (partsK k).getD 3 false = true from hc)]
        exact ⟨h.kk, ⟨h.w.rd, h.w.sb, ofB_len16 _, h.w.fb⟩, fun e => h.rd (.inl (e.resolve_right (by omega))), fun e => h.as0 (.inl (e.resolve_right (by omega))), fun e => h.src (.inl (e.resolve_right (by omega))), fun e => by rw [hc] at e; simp at e, fun e => h.key (e.imp id (by omega)), fun e => h.fr0 (e.imp id (by omega)), h.a0, h.a32, h.s, ofA_right _, h.f⟩
      | false =>
        rw [if_neg (show ¬ (partsK k).getD 3 false = true by show ¬ nAd k = true; rw [hc]; decide)]
        exact ⟨h.kk, h.w, fun e => h.rd (.inl (e.resolve_right (by omega))), fun e => h.as0 (.inl (e.resolve_right (by omega))), fun e => h.src (.inl (e.resolve_right (by omega))), fun _ => h.grp (.inl hc), fun e => h.key (e.imp id (by omega)), fun e => h.fr0 (e.imp id (by omega)), h.a0, h.a32, h.s, h.g, h.f⟩
    · by_cases hc : k = 4
      · rw [if_pos (show (partsK k).getD 4 false = true from decide_eq_true hc)]
        exact ⟨h.kk, ⟨h.w.rd, h.w.sb, h.w.gb, h.w.fb⟩, fun e => h.rd (.inl (e.resolve_right (by omega))), fun e => h.as0 (.inl (e.resolve_right (by omega))), fun e => h.src (.inl (e.resolve_right (by omega))), fun e => h.grp (.inl (e.resolve_right (by omega))), fun e => by exfalso; omega, fun e => h.fr0 (e.imp id (by omega)), h.a0, h.a32, h.s, h.g, h.f⟩
      · rw [if_neg (show ¬ (partsK k).getD 4 false = true by show ¬ decide (k = 4) = true; rw [decide_eq_false hc]; decide)]
        exact ⟨h.kk, h.w, fun e => h.rd (.inl (e.resolve_right (by omega))), fun e => h.as0 (.inl (e.resolve_right (by omega))), fun e => h.src (.inl (e.resolve_right (by omega))), fun e => h.grp (.inl (e.resolve_right (by omega))), fun _ => h.key (.inl hc), fun e => h.fr0 (e.imp id (by omega)), h.a0, h.a32, h.s, h.g, h.f⟩
    · cases hc : nFr k with
      | true =>
        rw [if_pos (show (partsK k).getD 5 false = true from hc)]
        exact ⟨h.kk, ⟨h.w.rd, h.w.sb, h.w.gb, ofB_len16 _⟩, fun e => h.rd (.inl (e.resolve_right (by omega))), fun e => h.as0 (.inl (e.resolve_right (by omega))), fun e => h.src (.inl (e.resolve_right (by omega))), fun e => h.grp (.inl (e.resolve_right (by omega))), fun e => h.key (.inl (e.resolve_right (by omega))), fun e => by rw [hc] at e; simp at e, h.a0, h.a32, h.s, h.g, ofA_right _⟩
      | false =>
        rw [if_neg (show ¬ (partsK k).getD 5 false = true by show ¬ nFr k = true; rw [hc]; decide)]
        exact ⟨h.kk, h.w, fun e => h.rd (.inl (e.resolve_right (by omega))), fun e => h.as0 (.inl (e.resolve_right (by omega))), fun e => h.src (.inl (e.resolve_right (by omega))), fun e => h.grp (.inl (e.resolve_right (by omega))), fun e => h.key (.inl (e.resolve_right (by omega))), fun _ => h.fr0 (.inl hc), h.a0, h.a32, h.s, h.g, h.f⟩
theorem readP_ok (b : List UInt8) : RdOk (numVal b 1 : Nat) 6 (readP b) := rdK_ok _ _ 6 (Nat.le_refl _)
theorem step_in {b : List UInt8} {n : Nat} (h : n ≤ b.length) : stepTaken b (n : Int) = b.take n ∧ stepRest b (n : Int) = b.drop n := by
  have hs : stepB b (n : Int) = true := by unfold stepB; simp; omega
  unfold stepTaken stepRest
  rw [if_pos hs, if_pos hs]
  exact ⟨rfl, rfl⟩
theorem num_in {b : List UInt8} {n : Nat} (hn : 1 ≤ n ∧ n ≤ 4) (h : n ≤ b.length) : numVal b (n : Int) = big (b.take n) ∧ numRest b (n : Int) = b.drop n := by
  have hs : sizeB (n : Int) = true := by unfold sizeB; simp; omega
  obtain ⟨h1, h2⟩ := step_in h
  unfold numVal numRest
  rw [if_pos hs, if_pos hs, h1, h2]
  exact ⟨rfl, rfl⟩
theorem num_one (x : UInt8) (r : List UInt8) : numVal (x :: r) 1 = x.toNat ∧ numRest (x :: r) 1 = r := by
  have := num_in (b := x :: r) (n := 1) (by omega) (by simp)
  refine ⟨this.1.trans ?_, this.2⟩
  simp [big]
theorem step_8 {b : List UInt8} (h : 8 ≤ b.length) : stepTaken b 8 = b.take 8 ∧ stepRest b 8 = b.drop 8 := step_in (n := 8) h
theorem num_4 {b : List UInt8} (h : 4 ≤ b.length) : numVal b 4 = big (b.take 4) ∧ numRest b 4 = b.drop 4 := num_in (n := 4) (by omega) h
theorem rdA_dec {b r : List UInt8} {p : Int × List UInt8} (h : decA b = some (p, r)) : rdA b = p ∧ rdAr b = r := by
  cases b with
  | nil => cases h
  | cons x y =>
    rw [decA] at h
    split at h
    · rename_i hc
      obtain ⟨h1, h2, h3⟩ := hc
      injection h with h
      obtain ⟨rfl, rfl⟩ := Prod.mk.inj h
      obtain ⟨n1, n2⟩ := num_one x y
      obtain ⟨s1, s2⟩ := step_in h3
      unfold rdA rdAr
      rw [n1, n2, s1, s2]
      exact ⟨rfl, rfl⟩
    · cases h
theorem kinds7 {k : Int} (h : kwn k = true) : k = 1 ∨ k = 2 ∨ k = 3 ∨ k = 4 ∨ k = 5 ∨ k = 6 ∨ k = 7 := by
  have := of_decide_eq_true h
  omega
theorem rdK_dec {k : Int} {b : List UInt8} {m : Mr} (hk : kwn k = true) (h : decM k b = some m) : (rdK k b 6).1 = m := by
  unfold decM at h
  cases e1 : decKey k b with
  | none => rw [e1] at h; cases h
  | some p =>
    obtain ⟨key, b1⟩ := p
    rw [e1, Option.bind_some] at h
    simp only at h
    cases e2 : decRd k b1 with
    | none => rw [e2] at h; cases h
    | some q =>
      obtain ⟨rd, b2⟩ := q
      rw [e2, Option.bind_some] at h
      simp only at h
      cases e3 : decAs k b2 with
      | none => rw [e3] at h; cases h
      | some q =>
        obtain ⟨a, b3⟩ := q
        rw [e3, Option.bind_some] at h
        simp only at h
        cases e4 : decAd k b3 with
        | none => rw [e4] at h; cases h
        | some q =>
          obtain ⟨⟨⟨ss, sb⟩, gs, gb⟩, b4⟩ := q
          rw [e4, Option.bind_some] at h
          simp only at h
          cases e5 : decFr k b4 with
          | none => rw [e5] at h; cases h
          | some q =>
            obtain ⟨fs, fb⟩ := q
            rw [e5, Option.map_some] at h
            injection h with h
            subst h
            have f1 : (k = 4 → key = rdKy b ∧ b1 = rdKr b) ∧ (k ≠ 4 → key = [] ∧ b1 = b) := by
              unfold decKey at e1
              refine ⟨fun hk4 => ?_, fun hk4 => ?_⟩
              · rw [if_pos hk4] at e1
                split at e1
                · rename_i hl
                  injection e1 with e1
                  obtain ⟨rfl, rfl⟩ := Prod.mk.inj e1
                  match b, hl with
                  | x :: y :: r, hl =>
                    obtain ⟨n1, n2⟩ := num_one x (y :: r)
                    obtain ⟨n3, n4⟩ := num_one y r
                    unfold keyN at hl ⊢
                    simp only [List.length_cons, List.getD_cons_succ, List.getD_cons_zero] at hl ⊢
                    obtain ⟨s1, s2⟩ := step_in (b := r) (n := y.toNat) (by omega)
                    unfold rdKy rdKr
                    rw [n1, n2, n3, n4, s1, s2, u8_ofNat_toNat, u8_ofNat_toNat, Nat.add_comm]
                    exact ⟨rfl, rfl⟩
                · cases e1
              · rw [if_neg hk4] at e1
                injection e1 with e1
                obtain ⟨rfl, rfl⟩ := Prod.mk.inj e1
                exact ⟨rfl, rfl⟩
            have f2 : (nRd k = true → rd = pad8 (stepTaken b1 8) ∧ b2 = stepRest b1 8) ∧ (nRd k = false → rd = zero8 ∧ b2 = b1) := by
              unfold decRd at e2
              refine ⟨fun hn => ?_, fun hn => ?_⟩
              · rw [hn, if_pos rfl] at e2
                split at e2
                · rename_i hl
                  injection e2 with e2
                  obtain ⟨rfl, rfl⟩ := Prod.mk.inj e2
                  obtain ⟨s1, s2⟩ := step_8 hl
                  rw [s1, s2, pad8_full (by rw [List.length_take]; omega)]
                  exact ⟨rfl, rfl⟩
                · cases e2
              · rw [hn, if_neg (by decide)] at e2
                injection e2 with e2
                obtain ⟨rfl, rfl⟩ := Prod.mk.inj e2
                exact ⟨rfl, rfl⟩
            have f3 : (nAs k = true → a = (numVal b2 4 : Nat) ∧ b3 = numRest b2 4) ∧ (nAs k = false → a = 0 ∧ b3 = b2) := by
              unfold decAs at e3
              refine ⟨fun hn => ?_, fun hn => ?_⟩
              · rw [hn, if_pos rfl] at e3
                split at e3
                · rename_i hl
                  injection e3 with e3
                  obtain ⟨rfl, rfl⟩ := Prod.mk.inj e3
                  obtain ⟨s1, s2⟩ := num_4 hl
                  rw [s1, s2]
                  exact ⟨rfl, rfl⟩
                · cases e3
              · rw [hn, if_neg (by decide)] at e3
                injection e3 with e3
                obtain ⟨rfl, rfl⟩ := Prod.mk.inj e3
                exact ⟨rfl, rfl⟩
            have f4 : (nAd k = true → (ss, sb) = rdA b3 ∧ (gs, gb) = rdA (rdAr b3) ∧ b4 = rdAr (rdAr b3)) ∧ (nAd k = false → ss = 0 ∧ sb = zero16 ∧ gs = 0 ∧ gb = zero16 ∧ b4 = b3) := by
              unfold decAd at e4
              refine ⟨fun hn => ?_, fun hn => ?_⟩
              · rw [hn, if_pos rfl] at e4
                cases g1 : decA b3 with
                | none => rw [g1] at e4; cases e4
                | some p =>
                  obtain ⟨p1, r1⟩ := p
                  rw [g1, Option.bind_some] at e4
                  simp only at e4
                  cases g2 : decA r1 with
                  | none => rw [g2] at e4; cases e4
                  | some q =>
                    obtain ⟨q1, r2⟩ := q
                    rw [g2, Option.map_some] at e4
                    injection e4 with e4
                    simp only [Prod.mk.injEq] at e4
                    obtain ⟨⟨h1, h2⟩, h3⟩ := e4
                    obtain ⟨a1, a2⟩ := rdA_dec g1
                    obtain ⟨a3, a4⟩ := rdA_dec g2
                    rw [a2, a3, a4, a1]
                    exact ⟨h1.symm, h2.symm, h3.symm⟩
              · rw [hn, if_neg (by decide)] at e4
                injection e4 with e4
                simp only [Prod.mk.injEq] at e4
                obtain ⟨⟨⟨rfl, rfl⟩, rfl, rfl⟩, rfl⟩ := e4
                exact ⟨rfl, rfl, rfl, rfl, rfl⟩
            have f5 : (nFr k = true → fs = ofS b4 ∧ fb = ofB b4) ∧ (nFr k = false → fs = 0 ∧ fb = zero16) := by
              unfold decFr at e5
              refine ⟨fun hn => ?_, fun hn => ?_⟩
              · rw [hn, if_pos rfl] at e5
                split at e5
                · injection e5 with e5
                  obtain ⟨rfl, rfl⟩ := Prod.mk.inj e5
                  exact ⟨rfl, rfl⟩
                · cases e5
              · rw [hn, if_neg (by decide)] at e5
                split at e5
                · injection e5 with e5
                  obtain ⟨rfl, rfl⟩ := Prod.mk.inj e5
                  exact ⟨rfl, rfl⟩
                · cases e5
            clear e1 e2 e3 e4 e5
            rcases kinds7 hk with rfl | rfl | rfl | rfl | rfl | rfl | rfl
            · obtain ⟨rfl, rfl⟩ := f1.2 (by decide)
              obtain ⟨rfl, rfl⟩ := f2.1 (by decide)
              obtain ⟨rfl, rfl⟩ := f3.2 (by decide)
              obtain ⟨rfl, rfl, rfl, rfl, rfl⟩ := f4.2 (by decide)
              obtain ⟨rfl, rfl⟩ := f5.1 (by decide)
              rfl
            · obtain ⟨rfl, rfl⟩ := f1.2 (by decide)
              obtain ⟨rfl, rfl⟩ := f2.1 (by decide)
              obtain ⟨rfl, rfl⟩ := f3.1 (by decide)
              obtain ⟨rfl, rfl, rfl, rfl, rfl⟩ := f4.2 (by decide)
              obtain ⟨rfl, rfl⟩ := f5.2 (by decide)
              rfl
            · obtain ⟨rfl, rfl⟩ := f1.2 (by decide)
              obtain ⟨rfl, rfl⟩ := f2.1 (by decide)
              obtain ⟨rfl, rfl⟩ := f3.2 (by decide)
              obtain ⟨h1, h2, rfl⟩ := f4.1 (by decide)
              obtain ⟨rfl, rfl⟩ := f5.1 (by decide)
              obtain ⟨rfl, rfl⟩ := Prod.mk.inj h1
              obtain ⟨rfl, rfl⟩ := Prod.mk.inj h2
              rfl
            · obtain ⟨rfl, rfl⟩ := f1.1 (by decide)
              obtain ⟨rfl, rfl⟩ := f2.2 (by decide)
              obtain ⟨rfl, rfl⟩ := f3.2 (by decide)
              obtain ⟨rfl, rfl, rfl, rfl, rfl⟩ := f4.2 (by decide)
              obtain ⟨rfl, rfl⟩ := f5.1 (by decide)
              rfl
            · obtain ⟨rfl, rfl⟩ := f1.2 (by decide)
              obtain ⟨rfl, rfl⟩ := f2.1 (by decide)
              obtain ⟨rfl, rfl⟩ := f3.2 (by decide)
              obtain ⟨h1, h2, rfl⟩ := f4.1 (by decide)
              obtain ⟨rfl, rfl⟩ := f5.2 (by decide)
              obtain ⟨rfl, rfl⟩ := Prod.mk.inj h1
              obtain ⟨rfl, rfl⟩ := Prod.mk.inj h2
              rfl
            all_goals
              obtain ⟨rfl, rfl⟩ := f1.2 (by decide)
              obtain ⟨rfl, rfl⟩ := f2.1 (by decide)
              obtain ⟨rfl, rfl⟩ := f3.1 (by decide)
              obtain ⟨h1, h2, rfl⟩ := f4.1 (by decide)
              obtain ⟨rfl, rfl⟩ := f5.2 (by decide)
              obtain ⟨rfl, rfl⟩ := Prod.mk.inj h1
              obtain ⟨rfl, rfl⟩ := Prod.mk.inj h2
              rfl
theorem kwn_of {m : Mr} (h : RightC m) : kwn m.k = true := decide_eq_true ⟨h.k1, h.k7⟩
theorem withP_right {s : Int} {bs : List UInt8} (hl : bs.length = 16) (h : rightA s bs = true) : withP s bs = withA s bs := by
  unfold withP withA
  rw [bytesA_size hl h]
theorem putOut_4 {a : Int} (h0 : 0 ≤ a) (h1 : a ≤ 4294967295) : putOut [] a 4 = be 4 a.toNat := by
  have hn : numB a 4 = true := by
    unfold numB
    have e : (256 : Int) ^ (4 : Int).toNat = 4294967296 := by decide
    rw [e]
    exact decide_eq_true ⟨h0, by omega⟩
  unfold putOut
  rw [hn]
  rfl
theorem write_right {m : Mr} (w : m.W) (h : RightC m) : writeP m = bytesM m := by
  have hb : bodyP m = bodyM m := by
    have a0 := h.a0
    have a32 := h.a32
    have hp := putOut_4 a0 a32
    have hkey := h.key
    have hfl := h.fl
    obtain ⟨k, rd, a, ss, sb, gs, gb, fs, fb, key⟩ := m
    obtain ⟨w1, w2, w3, w4⟩ := w
    simp only at w1 w2 w3 w4 hp hkey hfl
    have hs : nAd k = true → withP ss sb = withA ss sb := fun e => withP_right w2 (flow_right (hfl e)).1
    have hg : nAd k = true → withP gs gb = withA gs gb := fun e => withP_right w3 (flow_right (hfl e)).2
    rcases kinds7 (kwn_of h) with q | q | q | q | q | q | q <;> simp only at q <;> subst q
    · have := hkey (by decide)
      subst this
      simp [bodyP, bodyM, wrK, wrP, partsK, pRd, kwn, nRd, nAs, nAd, nFr]
    · have := hkey (by decide)
      subst this
      simp [bodyP, bodyM, wrK, wrP, partsK, pRd, kwn, nRd, nAs, nAd, nFr, hp]
    · have := hkey (by decide)
      subst this
      have h1 := hs (by decide)
      have h2 := hg (by decide)
      simp [bodyP, bodyM, wrK, wrP, partsK, pRd, kwn, nRd, nAs, nAd, nFr, hp, h1, h2]
    · simp [bodyP, bodyM, wrK, wrP, partsK, pRd, kwn, nRd, nAs, nAd, nFr, hp]
    all_goals
      have := hkey (by decide)
      subst this
      have h1 := hs (by decide)
      have h2 := hg (by decide)
      simp [bodyP, bodyM, wrK, wrP, partsK, pRd, kwn, nRd, nAs, nAd, nFr, hp, h1, h2]
  unfold writeP bytesM
  rw [hb]
theorem read_right {m : Mr} (w : m.W) (h : RightM m) : readP (bytesM m) = m := by
  have hd := dec_right w h
  have k1 := h.core.k1
  have k7 := h.core.k7
  obtain ⟨n1, n2⟩ := num_one (UInt8.ofNat m.k.toNat) (UInt8.ofNat (bodyM m).length :: bodyM m)
  obtain ⟨n3, n4⟩ := num_one (UInt8.ofNat (bodyM m).length) (bodyM m)
  have hk : (((UInt8.ofNat m.k.toNat).toNat : Nat) : Int) = m.k := by rw [ofNat_toNat (by omega)]; omega
  unfold readP bytesM
  rw [n1, n2, n4, hk]
  exact rdK_dec (kwn_of h.core) hd
def flowP (m : Mr) : Bool := if multiA m.ss m.sb || (decide (0 < m.gs) && !multiA m.gs m.gb) then false else if m.ss = 0 ∨ m.gs = 0 then decide (m.k = 3) || !nAd m.k else decide (m.ss = m.gs)
def fromP (m : Mr) : Bool := nFr m.k == decide (0 < m.fs)
def ansK (k : Int) : Bool := decide (k = 2 ∨ k = 3)
def keyX (m : Mr) : Bool := if m.k = 4 then ansK (readP m.key).k && rightM (readP m.key) && decide (writeP (readP m.key) = m.key) else true
def sameP (m : Mr) : Bool := sameM (readP (writeP m)) m
theorem rightM_prog {m : Mr} (w : m.W) : (kwn m.k && flowP m && keyX m && fromP m && sameP m) = rightM m := by
  rw [Bool.eq_iff_iff, rightM_iff]
  simp only [Bool.and_eq_true]
  constructor
  · rintro ⟨⟨⟨⟨hk, hf⟩, hx⟩, hr⟩, hs⟩
    have hs' : readP (writeP m) = m := (sameM_iff _ _).1 hs
    have R := readP_ok (writeP m)
    rw [hs'] at R
    have rk := R.kk
    rw [← rk] at R
    obtain ⟨k1, k7⟩ := of_decide_eq_true hk
    have hpr : nRd m.k = false → pRd m.k = false := fun e => by unfold pRd; rw [e, Bool.and_false]
    have hrr : nFr m.k = decide (0 < m.fs) := by simpa [fromP] using hr
    refine ⟨⟨k1, k7, fun e => R.rd (.inl (hpr e)), fun e => R.as0 (.inl e), fun e => R.src (.inl e), fun e => R.grp (.inl e), fun e => R.fr0 (.inl e), fun e => R.key (.inl e), R.a0, R.a32, fun e => ⟨R.f, ?_⟩, fun e => ?_⟩, fun e => ?_⟩
    · rw [e] at hrr
      exact of_decide_eq_true hrr.symm
    · unfold flowP at hf
      have r1 := R.s
      have r2 := R.g
      unfold flowA
      rw [r1, r2]
      cases c1 : multiA m.ss m.sb
      · rw [c1, Bool.false_or] at hf
        cases c2 : (decide (0 < m.gs) && !multiA m.gs m.gb)
        · rw [c2, if_neg (by decide), e] at hf
          have c3 : (decide (m.gs ≤ 0) || multiA m.gs m.gb) = true := by
            cases c4 : multiA m.gs m.gb
            · rw [c4] at c2
              simp at c2
              simpa using c2
            · simp
          rw [c3]
          simp only [Bool.not_false, Bool.true_and, Bool.or_eq_true, Bool.and_eq_true, decide_eq_true_eq]
          by_cases hz : m.ss = 0 ∨ m.gs = 0
          · rw [if_pos hz] at hf
            simp at hf
            exact .inl ⟨hf, hz⟩
          · rw [if_neg hz] at hf
            have hss := of_decide_eq_true hf
            refine .inr ⟨?_, hss⟩
            rcases right_sizes r1 with q | q | q
            · exact absurd (.inl q) hz
            · omega
            · omega
        · rw [c2, if_pos rfl] at hf; cases hf
      · rw [c1, Bool.true_or, if_pos rfl] at hf; cases hf
    · unfold keyX at hx
      rw [if_pos e] at hx
      simp only [Bool.and_eq_true, decide_eq_true_eq] at hx
      obtain ⟨⟨ha, hb⟩, hc⟩ := hx
      have X := readP_ok m.key
      have hb' := (rightM_iff _).1 hb
      exact (keyM_iff _).2 ⟨readP m.key, X.w, hb'.core, of_decide_eq_true ha, by rw [← write_right X.w hb'.core]; exact hc⟩
  · intro h
    have hw := write_right w h.core
    have hr := read_right w h
    refine ⟨⟨⟨⟨kwn_of h.core, ?_⟩, ?_⟩, ?_⟩, ?_⟩
    · unfold flowP
      cases e : nAd m.k
      · obtain ⟨s1, s2⟩ := h.core.src e
        obtain ⟨g1, g2⟩ := h.core.grp e
        have hm : multiA 0 zero16 = false := by decide +kernel
        rw [s1, s2, g1, hm]
        simp
      · have hf := h.core.fl e
        unfold flowA at hf
        simp only [Bool.and_eq_true, Bool.or_eq_true, Bool.not_eq_true', decide_eq_true_eq] at hf
        obtain ⟨⟨⟨⟨r1, r2⟩, m1⟩, m2⟩, m3⟩ := hf
        have c2 : (decide (0 < m.gs) && !multiA m.gs m.gb) = false := by
          rcases m2 with q | q
          · simp; intro; omega
          · rw [q]; simp
        rw [m1, c2, Bool.false_or, if_neg (by decide)]
        split
        · rename_i hz
          rcases m3 with q | q
          · simp [q.1]
          · omega
        · rename_i hz
          rcases m3 with q | q
          · exact absurd q.2 hz
          · exact decide_eq_true q.2
    · unfold keyX
      split
      · rename_i e
        obtain ⟨x, xw, xr, xk, hx⟩ := (keyM_iff _).1 (h.key e)
        have xm : RightM x := ⟨xr, fun q => by omega⟩
        have h1 := read_right xw xm
        rw [hx] at h1
        rw [h1, (rightM_iff x).2 xm, write_right xw xr, hx]
        simp [ansK, xk]
      · rfl
    · unfold fromP
      cases e : nFr m.k
      · have := (h.core.fr0 e).1
        rw [this]; rfl
      · have := (h.core.fr e).2
        rw [decide_eq_true this]; rfl
    · unfold sameP
      rw [hw, hr]
      exact (sameM_iff _ _).2 rfl
theorem right_W_write {m : Mr} (w : m.W) (h : rightM m = true) : writeP m = bytesM m := write_right w ((rightM_iff m).1 h).core
def ofSizeP (m : Mr) (size : Int) : Bool :=
  decide (max (if m.k = 4 then readP m.key else m).ss (if m.k = 4 then readP m.key else m).gs = 0 ∨ max (if m.k = 4 then readP m.key else m).ss (if m.k = 4 then readP m.key else m).gs = size)
theorem size0_prog {m : Mr} (h : RightC m) {size : Int} (hz : size = 4 ∨ size = 16) : decide (max m.ss m.gs = 0 ∨ max m.ss m.gs = size) = sized0 m size := by
  unfold sized0
  rw [decide_eq_decide]
  cases e : nAd m.k
  · have h1 := (h.src e).1
    have h2 := (h.grp e).1
    rw [h1, h2]
    simp
  · have hf := h.fl e
    obtain ⟨r1, r2⟩ := flow_right hf
    unfold flowA at hf
    simp only [Bool.and_eq_true, Bool.or_eq_true, decide_eq_true_eq] at hf
    have h3 := hf.2
    rcases right_sizes r1 with a | a | a <;> rcases right_sizes r2 with b | b | b <;> rw [a, b] at h3 ⊢ <;> simp at h3 ⊢ <;> omega
theorem size_prog {m : Mr} (w : m.W) (h : RightM m) {size : Int} (hz : size = 4 ∨ size = 16) : ofSizeP m size = sizedM m size := by
  unfold ofSizeP sizedM
  by_cases e : m.k = 4
  · rw [if_pos e, if_pos e]
    obtain ⟨x, xw, xr, xk, hx⟩ := (keyM_iff _).1 (h.key e)
    have xm : RightM x := ⟨xr, fun q => by omega⟩
    have h1 := read_right xw xm
    rw [hx] at h1
    rw [h1, size0_prog xr hz, Bool.eq_iff_iff, keyR_iff]
    constructor
    · intro hs
      exact ⟨x, xw, xr, xk, hs, hx⟩
    · rintro ⟨y, yw, yr, yk, hs, hy⟩
      have ym : RightM y := ⟨yr, fun q => by omega⟩
      have h2 := read_right yw ym
      rw [hy, h1] at h2
      rw [h2]; exact hs
  · rw [if_neg e, if_neg e]
    exact size0_prog h.core hz
def cutT (b : List UInt8) : List UInt8 := b.take (keyN b)
def takeOk (b : List UInt8) (size : Int) : Bool := rightM (readP (cutT b)) && decide (bytesM (readP (cutT b)) = cutT b) && ofSizeP (readP (cutT b)) size
theorem take_prog {b : List UInt8} {size : Int} (hz : size = 4 ∨ size = 16) (hs : ¬ Short b) :
    takeR b size = (if takeOk b size = true then readP (cutT b) else mr0) ∧ takeN b size = (if takeOk b size = true then keyN b else 0) ∧ takeE b size = (if takeOk b size = true then 0 else 4) := by
  have X := readP_ok (cutT b)
  by_cases h : takeOk b size = true
  · rw [if_pos h, if_pos h, if_pos h]
    unfold takeOk at h
    simp only [Bool.and_eq_true, decide_eq_true_eq] at h
    obtain ⟨⟨h1, h2⟩, h3⟩ := h
    have hr := (rightM_iff _).1 h1
    rw [size_prog X.w hr hz] at h3
    obtain ⟨t1, t2⟩ := (take_iff hz).2 ⟨hs, X.w, hr, h3, h2⟩
    exact ⟨t2, by unfold takeN; rw [if_pos t1], t1⟩
  · rw [if_neg h, if_neg h, if_neg h]
    have he : takeE b size ≠ 0 := fun e => by
      obtain ⟨_, tw, tr, ts, tb⟩ := (take_iff hz (m := takeR b size)).1 ⟨e, rfl⟩
      apply h
      have h1 := read_right tw tr
      rw [tb] at h1
      unfold takeOk cutT
      rw [h1, (rightM_iff _).2 tr, size_prog tw tr hz, ts, tb]
      simp
    refine ⟨by unfold takeR; rw [if_neg he], by unfold takeN; rw [if_neg he], ?_⟩
    unfold takeE at he ⊢
    rw [if_neg (fun n => n hz), if_neg hs] at he ⊢
    split
    · rename_i hg
      rw [if_pos hg] at he
      exact absurd rfl he
    · rfl
end Go.Proofs.YtipgbmajhnkfbaaGreatDoor
namespace Go.Proofs.YtipgbmajhnkfbaaGreatDoor
open Go.RowKit
set_option linter.unusedVariables false
set_option linter.unusedSimpArgs false
def nmC (k : Int) : Array Value := ((partsK k).map Value.bool).toArray
theorem nmC_size (k : Int) : (nmC k).size = 6 := rfl
theorem nmC_one (k : Int) : (nmC k).all (·.oneCell') = true := by
  rw [Array.all_eq_true_iff_forall_mem]
  intro u hu
  simp only [nmC, List.mem_toArray, List.mem_map] at hu
  obtain ⟨b, _, rfl⟩ := hu
  rfl
theorem parts_none {k : Int} (h : k < 1 ∨ 7 < k) : partsK k = [false, false, false, false, false, false] := by
  have h1 : kwn k = false := decide_eq_false (by omega)
  have h2 : nAs k = false := decide_eq_false (by omega)
  have h3 : nAd k = false := decide_eq_false (by omega)
  have h4 : nFr k = false := decide_eq_false (by omega)
  have h5 : decide (k = 4) = false := decide_eq_false (by omega)
  unfold partsK pRd
  rw [h1, h2, h3, h4, h5]
  rfl
theorem nmC_none {k : Int} (h : k < 1 ∨ 7 < k) : nmC k = #[.bool false, .bool false, .bool false, .bool false, .bool false, .bool false] := by
  unfold nmC
  rw [parts_none h]
  rfl
def Named (w : World) : Prop := ∀ k : Nat, k < 8 → w.rangeAt 0 (k * 6) (nmC k).toList
theorem Named.below {w w' : World} (h : Named w) (hb : Below w.heap.size w w') : Named w' := fun k hk j u hu => by
  have h1 := h k hk j u hu
  rw [hb.cell (World.block_lt_of_cell? _ _ h1)]
  exact h1
theorem ret_nm1 {fn : Func} {R : Ending → World → Prop} {a : Act} {w : World} {p : Tmp} {g : Nat} {t : TypeId} {k : Int} (hf : fn.results = #[.cell p 55])
    (hp : a.tmps.getD p undef = .pointer (some ⟨g, 0, none⟩)) (h : Blk w g t (nmC k)) (hd : a.defers = []) (hR : R (.returned (.agg (nmC k))) w) :
    bodyPost Tryz.prog fn R .ret a w := by
  refine bodyPost_ret (v := .agg (nmC k)) ?_ hd hR
  have hp' : a.tmps[p]?.getD undef = .pointer (some ⟨g, 0, none⟩) := by simpa using hp
  have hl := run_loadVar_row (P := Tryz.prog) w g t 55 (nmC k) (0, 0) _ h Tryz.underlying55 rfl (by rw [nmC_size]; kernel_rfl)
  simp [results, hf, hp', asAddr, hl]
theorem nmNone (w : World) (k : Int) (h : k < 0 ∨ 8 ≤ k) :
    Calls Tryz.prog 30 #[.int .i64 k] w fun e w' => e = .returned (.agg (nmC k)) ∧ Below w.heap.size w w' := by
  have HB : Hid (Blk (w.alloc (.cells #[.bool false, .bool false, .bool false, .bool false, .bool false, .bool false] 55)) w.heap.size 55 (nmC k)) := hide (by rw [nmC_none (k := k) (by omega)]; exact Blk.new w _ _)
  rcases h with h | h
  all_goals
    go_enter Tryz.func30, Tryz.ntmps30
    go_wp2
    refine ret_nm1 (p := 2) (g := w.heap.size) (t := 55) (k := k) rfl rfl HB.out rfl ⟨rfl, ?_⟩
    exact (Below.refl _ _).alloc (Nat.le_refl _) _
theorem wpList_store_nm {ops : Array Oper} {rest : List Oper} {o : Oper} {a : Act} {w : World} {Q : Exit → Act → World → Prop} (hgd : o.guard = none) (x y : Operand) (ho : o.op = .store 55 x y)
    (g : Nat) (hx : a.eval x = .pointer (some ⟨g, 0, none⟩)) {k : Int} (hy : a.eval y = .agg (nmC k)) {t : TypeId} {old : Array Value} (h : Blk w g t old) (hold : old.size = 6)
    (hk : ∀ w', Blk w' g t (nmC k) → w.grownBy w' (some g) → wpList Tryz.prog ops Q rest (a.put o.dst undef) w') : wpList Tryz.prog ops Q (o :: rest) a w :=
  wpList_store_row hgd 55 x y ho g (nmC k) hx hy t old h (by rw [nmC_size]; kernel_rfl) (by rw [nmC_size, hold]) (nmC_one k) (hk _ (h.setRow _) (grown_setRow _ _ _))
theorem nm_list (k : Int) : (nmC k).toList.toArray = nmC k := rfl
theorem nmSome (w : World) (k : Nat) (hk : k < 8) (hn : Named w) :
    Calls Tryz.prog 30 #[.int .i64 k] w fun e w' => e = .returned (.agg (nmC k)) ∧ Below w.heap.size w w' := by
  have HR : Hid ((w.alloc (.cells #[.bool false, .bool false, .bool false, .bool false, .bool false, .bool false] 55)).rangeAt 0 (k * 6) (nmC k).toList) := hide (hn.below ((Below.refl _ _).alloc (Nat.le_refl _) _) k hk)
  have HB := hide (Blk.new w 55 #[.bool false, .bool false, .bool false, .bool false, .bool false, .bool false])
  clear hn
  go_enter Tryz.func30, Tryz.ntmps30
  go_wp2_with (first
    | ((with_reducible refine wpList_load_mid rfl 55 (.tmp 11) rfl 0 (k * 6) ?c1 (nmC k).toList _ HR.out Tryz.underlying55 rfl ?c2 ?_); (case c1 => rfl); (case c2 => kernel_rfl); rw [nm_list])
    | (refine wpList_store_nm rfl (.tmp 2) (.tmp 12) rfl w.heap.size rfl (k := k) rfl HB.out rfl ?_; intro w2 hb2 hg2; have HB2 := hide hb2; have HG2 := hide hg2; clear hb2 hg2; refine Hid.out ?_))
  all_goals
    refine hide ?_
    go_wp2
    refine ret_nm1 (p := 2) (g := w.heap.size) (t := 55) (k := k) rfl rfl HB2.out rfl ⟨rfl, ?_⟩
    exact (((Below.refl _ _).alloc (Nat.le_refl _) _)).grown HG2.out (by simp) (by simp)
theorem names_any (w : World) (k : Int) (hn : Named w) :
    Calls Tryz.prog 30 #[.int .i64 k] w fun e w' => e = .returned (.agg (nmC k)) ∧ Below w.heap.size w w' := by
  by_cases h : k < 0 ∨ 8 ≤ k
  · exact nmNone w k h
  · obtain ⟨n, rfl⟩ : ∃ n : Nat, k = (n : Int) := ⟨k.toNat, by omega⟩
    exact nmSome w n (by omega) hn
theorem nm_neq (w : World) : ∀ k : Int, (binOp .neq 55 (.agg (nmC k)) (.agg #[.bool false, .bool false, .bool false, .bool false, .bool false, .bool false])).run Tryz.prog w = .ok (.bool (kwn k)) w := by
  intro k
  have h : (Op.equalIn 10000 55 (.agg (nmC k)) (.agg #[.bool false, .bool false, .bool false, .bool false, .bool false, .bool false])).run Tryz.prog w = .ok (!kwn k) w := by
    by_cases h : k < 1 ∨ 7 < k
    · rw [nmC_none h, show kwn k = false from decide_eq_false (by omega)]
      kernel_rfl
    · rcases (show k = 1 ∨ k = 2 ∨ k = 3 ∨ k = 4 ∨ k = 5 ∨ k = 6 ∨ k = 7 by omega) with rfl | rfl | rfl | rfl | rfl | rfl | rfl <;> kernel_rfl
  rw [run_neq_struct, h]
  simp [Result.andThen]
theorem wpList_neq_nm {ops : Array Oper} {rest : List Oper} {o : Oper} {a : Act} {w : World} {Q : Exit → Act → World → Prop} (hgd : o.guard = none) (x y : Operand) (ho : o.op = .binOp .neq 55 x y 55)
    {k : Int} (hx : a.eval x = .agg (nmC k)) (hy : a.eval y = .agg #[.bool false, .bool false, .bool false, .bool false, .bool false, .bool false])
    (hk : wpList Tryz.prog ops Q rest (a.put o.dst (.bool (kwn k))) w) : wpList Tryz.prog ops Q (o :: rest) a w := by
  refine wpList_plain hgd fun K hK' => ?_
  have hg : Tryz.prog.eqGuardType Tryz.prog.depth 55 = false := by kernel_rfl
  have hg' := run_eqGuard_agg (P := Tryz.prog) w .neq 55 x y (nmC k) #[.bool false, .bool false, .bool false, .bool false, .bool false, .bool false] hg
  unfold Oper.wp execOp
  simp only [ho, hx, hy, Sem.run_bind, hg', Result.andThen_ok, nm_neq]
  exact hK' _ _ hk
theorem known_any (w : World) (k : Int) (hn : Named w) :
    Calls Tryz.prog 19 #[.int .i64 k] w fun e w' => e = .returned (.bool (kwn k)) ∧ Below w.heap.size w w' := by
  go_enter Tryz.func19, Tryz.ntmps19
  go_wp2_with fail
  refine (names_any w k hn).mono ?_
  rintro e w1 ⟨rfl, hb⟩
  have W1 := hide hb
  clear hb
  go_wp2_with (with_reducible refine wpList_neq_nm rfl (.tmp 4) (.tmp 5) rfl (k := k) rfl rfl ?_)
  go_ret
  exact ⟨rfl, W1.out⟩
theorem answered_any (w : World) (k : Int) :
    Calls Tryz.prog 46 #[.int .i64 k] w fun e w' => e = .returned (.bool (ansK k)) ∧ w = w' := by
  by_cases h2 : k = 2
  · subst h2
    go_enter Tryz.func46, Tryz.ntmps46
    go_wp2
    go_ret
    exact ⟨rfl, rfl⟩
  · have ha : ansK k = decide (k = 3) := by unfold ansK; simp [h2]
    have HA := hide ha
    clear ha
    go_enter Tryz.func46, Tryz.ntmps46
    go_wp2
    go_ret
    refine ⟨?_, rfl⟩
    have h3 : (k == 2) = false := beq_eq_false_iff_ne.2 h2
    rw [HA.out]
    simp only [h3, Bool.false_or]
    congr 2
end Go.Proofs.YtipgbmajhnkfbaaGreatDoor
