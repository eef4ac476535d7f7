/-
  AttrForms, plain: what an Attr's numbers and a Set's numbers are laid out as by their forms. Its condition: numbers of 64 bits.
-/
import Derived.Test.YtakfpfnaogdmlaaDoorEn
import Derived.Test.YtakfpfnaogdmlaaDoorPq
namespace Go.Proofs.YtakfpfnaogdmlaaDoor
open Go.RowKit Sch A
def I64 (n : Int) : Prop := -9223372036854775808 ≤ n ∧ n ≤ 9223372036854775807
def ones : List UInt8 → Row
  | [] => .nil
  | c :: l => .one c (ones l)
def uqB : List UInt8 → List Int → Bool
  | [], [] => true
  | c :: l, n :: N => (c == 113 || (decide (0 ≤ n) && decide (n ≤ 4294967295))) && uqB l N
  | _, _ => false
theorem nb_len (n : Int) (k : Nat) : (Y.numBytes n k).length = k := by simp [Y.numBytes, Y.numTo_length]
theorem one_u {n : Int} (N : List Int) (T : List ByteArray) (h : 0 ≤ n ∧ n ≤ 4294967295) : oneL 117 (n :: N) T = .ok (Y.numBytes n 4, N, T) := by
  unfold oneL
  rw [if_pos rfl]
  unfold numL; dsimp only
  rw [if_pos h]
theorem one_u_no {n : Int} (N : List Int) (T : List ByteArray) (h : ¬(0 ≤ n ∧ n ≤ 4294967295)) : oneL 117 (n :: N) T = .error 4 := by
  unfold oneL
  rw [if_pos rfl]
  unfold numL; dsimp only
  rw [if_neg h]
theorem one_q {n : Int} (N : List Int) (T : List ByteArray) (h : I64 n) : oneL 113 (n :: N) T = .ok (Y.numBytes n 8, N, T) := by
  unfold oneL
  rw [if_neg (by decide), if_pos rfl]
  unfold numL; dsimp only
  rw [if_pos (show -9223372036854775808 ≤ n ∧ n ≤ 9223372036854775807 from h)]
theorem ly_ones : ∀ (cs : List UInt8) (N : List Int), cs.length = N.length → (∀ c ∈ cs, c = 117 ∨ c = 113) → (∀ n ∈ N, I64 n) →
    (uqB cs N = true → ∃ b, ly none (ones cs) N [] = .ok (b, [], []) ∧ b.length ≤ 8 * cs.length) ∧ (uqB cs N = false → ly none (ones cs) N [] = .error 4)
  | [], [], _, _, _ => ⟨fun _ => ⟨[], by simp [ones, ly], by simp⟩, fun h => by simp [uqB] at h⟩
  | [], _ :: _, h, _, _ => by simp at h
  | _ :: _, [], h, _, _ => by simp at h
  | c :: cs, n :: N, h, hc, hn => by
    obtain ⟨i1, i2⟩ := ly_ones cs N (by simpa using h) (fun x hx => hc x (List.mem_cons_of_mem _ hx)) (fun x hx => hn x (List.mem_cons_of_mem _ hx))
    have hn0 := hn n List.mem_cons_self
    rcases (hc c List.mem_cons_self : c = 117 ∨ c = 113) with rfl | rfl
    · by_cases hr : 0 ≤ n ∧ n ≤ 4294967295
      · have e : uqB (117 :: cs) (n :: N) = uqB cs N := by simp [uqB, hr.1, hr.2]
        rw [e, ones, ly, one_u N [] hr]
        simp only [andL]
        refine ⟨fun hq => ?_, fun hq => ?_⟩
        · obtain ⟨b, e1, e2⟩ := i1 hq
          rw [e1]
          refine ⟨_, rfl, ?_⟩
          rw [List.length_append, nb_len, List.length_cons]
          omega
        · rw [i2 hq]; rfl
      · have e : uqB (117 :: cs) (n :: N) = false := by
          have e2 : (decide (0 ≤ n) && decide (n ≤ 4294967295)) = false := by
            rw [← Bool.decide_and]; exact decide_eq_false hr
          simp [uqB, e2]
        rw [e, ones, ly, one_u_no N [] hr]
        exact ⟨fun hq => (by cases hq), fun _ => rfl⟩
    · have e : uqB (113 :: cs) (n :: N) = uqB cs N := by simp [uqB]
      rw [e, ones, ly, one_q N [] hn0]
      simp only [andL]
      refine ⟨fun hq => ?_, fun hq => ?_⟩
      · obtain ⟨b, e1, e2⟩ := i1 hq
        rw [e1]
        refine ⟨_, rfl, ?_⟩
        rw [List.length_append, nb_len, List.length_cons]
        omega
      · rw [i2 hq]; rfl
def afF : List UInt8 := [117, 117, 117, 117, 117, 113, 113, 117, 117, 113, 113, 117, 117, 117, 117, 117, 117]
def afG : List UInt8 := [63, 40, 117, 41, 63, 40, 117, 41, 63, 40, 117, 41, 63, 40, 113, 41, 60, 48, 58, 44, 49, 58, 44, 50, 58, 117, 117, 62, 60, 48, 58, 44, 49, 58, 44, 50, 58, 117, 117, 62]
theorem form_f : form num5 afF = some (ones afF) := by kernel_rfl
def armsG : Row := .arm 0 .nil (.arm 1 .nil (.arm 2 (.one 117 (.one 117 .nil)) .nil))
def rowG : Row := .opt 63 (.one 117 .nil) (.opt 63 (.one 117 .nil) (.opt 63 (.one 117 .nil) (.opt 63 (.one 113 .nil) (.ch armsG (.ch armsG .nil)))))
theorem form_g : form num5 afG = some rowG := by kernel_rfl
/-- What Encode answers by the form of an Attr. -/
theorem enc_f (N : List Int) (h : N.length = 17) (hn : ∀ n ∈ N, I64 n) : (uqB afF N = true → ∃ b, encO afF N [] = .ok b) ∧ (uqB afF N = false → encO afF N [] = .error 4) := by
  obtain ⟨i1, i2⟩ := ly_ones afF N (by rw [h]; rfl) (by decide) hn
  unfold encO
  rw [form_f]
  dsimp only
  unfold laidO
  refine ⟨fun hq => ?_, fun hq => ?_⟩
  · obtain ⟨b, e1, e2⟩ := i1 hq
    rw [e1]
    have e3 : afF.length = 17 := rfl
    refine ⟨b, ?_⟩
    dsimp only
    rw [if_pos ⟨rfl, rfl⟩]
    dsimp only
    rw [if_neg (by omega)]
  · rw [i2 hq]
def peB (c : UInt8) (b : Bool) (x : Int) : Bool := !b || c == 113 || (decide (0 ≤ x) && decide (x ≤ 4294967295))
theorem ly_pe (c : UInt8) (hc : c = 117 ∨ c = 113) (b : Bool) (x : Int) (hx : I64 x) (r : Row) :
    (peB c b x = true → ∃ p, p.length ≤ 12 ∧ ∀ N, ly none (.opt 63 (.one c .nil) r) (peL b x ++ N) [] = preL p (ly none r N [])) ∧ (peB c b x = false → ∀ N, ly none (.opt 63 (.one c .nil) r) (peL b x ++ N) [] = .error 4) := by
  cases b
  · refine ⟨fun _ => ⟨Y.numBytes 0 4, by rw [nb_len]; omega, fun N => ?_⟩, fun h => by simp [peB] at h⟩
    rw [ly, if_pos rfl]
    have e : maybeL (ly none (.one c .nil)) (peL false x ++ N) [] = .ok (Y.numBytes 0 4, N, []) := by
      show maybeL _ ((0 : Int) :: N) [] = _
      unfold maybeL
      have e1 : numL 0 1 4 ((0 : Int) :: N) [] = .ok (Y.numBytes 0 4, N, []) := by
        unfold numL; dsimp only; rw [if_pos (by decide)]
      rw [e1]
      simp only [andL]
      rw [if_neg (by simp)]
      simp [preL]
    rw [e]
    rfl
  · have e0 : ∀ N, maybeL (ly none (.one c .nil)) (peL true x ++ N) [] = preL (Y.numBytes 1 4) (andL (oneL c (x :: N) []) (ly none .nil)) := by
      intro N
      show maybeL _ ((1 : Int) :: x :: N) [] = _
      unfold maybeL
      have e1 : numL 0 1 4 ((1 : Int) :: x :: N) [] = .ok (Y.numBytes 1 4, x :: N, []) := by
        unfold numL; dsimp only; rw [if_pos (by decide)]
      rw [e1]
      simp only [andL]
      rw [if_pos (by simp), ly]
      rfl
    by_cases hr : c = 113 ∨ (0 ≤ x ∧ x ≤ 4294967295)
    · have hk : ∃ k : Nat, k ≤ 8 ∧ ∀ N, oneL c (x :: N) [] = .ok (Y.numBytes x k, N, []) := by
        rcases hc with rfl | rfl
        · rcases hr with h | h
          · cases h
          · exact ⟨4, by omega, fun N => one_u N [] h⟩
        · exact ⟨8, by omega, fun N => one_q N [] hx⟩
      obtain ⟨k, hk8, hk⟩ := hk
      refine ⟨fun _ => ⟨Y.numBytes 1 4 ++ Y.numBytes x k, by rw [List.length_append, nb_len, nb_len]; omega, fun N => ?_⟩, fun h => ?_⟩
      · rw [ly, if_pos rfl, e0 N, hk N]
        simp [andL, preL, ly]
      · exfalso
        rcases hr with rfl | ⟨h1, h2⟩
        · simp [peB] at h
        · simp [peB, h1, h2] at h
    · obtain ⟨h1, h2⟩ := not_or.1 hr
      obtain rfl : c = 117 := hc.resolve_right h1
      have e2 : (decide (0 ≤ x) && decide (x ≤ 4294967295)) = false := by
        rw [← Bool.decide_and]; exact decide_eq_false h2
      refine ⟨fun h => ?_, fun _ N => ?_⟩
      · simp [peB, e2] at h
      · rw [ly, if_pos rfl, e0 N, one_u_no N [] h2]
        rfl
def moB (h x y : Int) : Bool := decide (0 ≤ h) && decide (h ≤ 2) && (decide (h < 2) || ((decide (0 ≤ x) && decide (x ≤ 4294967295)) && (decide (0 ≤ y) && decide (y ≤ 4294967295))))
theorem ly_mo (h x y : Int) (r : Row) :
    (moB h x y = true → ∃ p, p.length ≤ 12 ∧ ∀ N, ly none (.ch armsG r) (moL h x y ++ N) [] = preL p (ly none r N [])) ∧ (moB h x y = false → ∀ N, ly none (.ch armsG r) (moL h x y ++ N) [] = .error 4) := by
  have hd : ∃ M, moL h x y = h :: M := by unfold moL; split <;> exact ⟨_, rfl⟩
  by_cases hr : 0 ≤ h ∧ h ≤ 4294967295
  · have e0 : ∀ M, numL 0 4294967295 4 (h :: M) [] = .ok (Y.numBytes h 4, M, []) := by
      intro M; unfold numL; dsimp only; rw [if_pos hr]
    have e1 : ∀ M, armL (fun n N' T' => ly (some n) armsG N' T') (h :: M) [] = preL (Y.numBytes h 4) (ly (some h) armsG M []) := by
      intro M; unfold armL; rw [e0 M]; rfl
    by_cases h0 : h = 0 ∨ h = 1
    · have e2 : ∀ M, ly (some h) armsG M [] = .ok ([], M, []) := by
        intro M
        rw [ly_some]
        have hp : pick h armsG = some .nil := by
          rcases h0 with rfl | rfl <;> simp [pick, armsG]
        rw [hp]
        simp [ly]
      have e3 : moL h x y = [h] := by unfold moL; rw [if_neg (by omega)]
      refine ⟨fun _ => ⟨Y.numBytes h 4, by rw [nb_len]; omega, fun N => ?_⟩, fun hb => ?_⟩
      · rw [ly, e3, List.singleton_append, e1, e2]
        simp [preL, andL]
      · exfalso
        rcases h0 with rfl | rfl <;> simp [moB] at hb
    · by_cases h2 : h = 2
      · subst h2
        have e3 : moL 2 x y = [2, x, y] := by unfold moL; rw [if_pos rfl]
        have e2 : ∀ M, ly (some 2) armsG M [] = ly none (.one 117 (.one 117 .nil)) M [] := by
          intro M
          rw [ly_some]
          have hp : pick 2 armsG = some (.one 117 (.one 117 .nil)) := by simp [pick, armsG]
          rw [hp]
        by_cases hx : 0 ≤ x ∧ x ≤ 4294967295
        · by_cases hy : 0 ≤ y ∧ y ≤ 4294967295
          · refine ⟨fun _ => ⟨Y.numBytes 2 4 ++ (Y.numBytes x 4 ++ Y.numBytes y 4), by simp only [List.length_append, nb_len]; omega, fun N => ?_⟩, fun hb => ?_⟩
            · rw [ly, e3]
              show andL (armL _ (2 :: x :: y :: N) []) _ = _
              rw [e1, e2, ly, one_u _ _ hx]
              simp only [andL]
              rw [ly, one_u _ _ hy]
              simp [andL, preL, ly]
            · exfalso
              simp [moB, hx.1, hx.2, hy.1, hy.2] at hb
          · have e4 : (decide (0 ≤ y) && decide (y ≤ 4294967295)) = false := by
              rw [← Bool.decide_and]; exact decide_eq_false hy
            refine ⟨fun hb => ?_, fun _ N => ?_⟩
            · exfalso
              simp [moB, e4] at hb
            · rw [ly, e3]
              show andL (armL _ (2 :: x :: y :: N) []) _ = _
              rw [e1, e2, ly, one_u _ _ hx]
              simp only [andL]
              rw [ly, one_u_no _ _ hy]
              rfl
        · have e4 : (decide (0 ≤ x) && decide (x ≤ 4294967295)) = false := by
            rw [← Bool.decide_and]; exact decide_eq_false hx
          refine ⟨fun hb => ?_, fun _ N => ?_⟩
          · exfalso
            simp [moB, e4] at hb
          · rw [ly, e3]
            show andL (armL _ (2 :: x :: y :: N) []) _ = _
            rw [e1, e2, ly, one_u_no _ _ hx]
            rfl
      · have e2 : ∀ M, ly (some h) armsG M [] = .error 4 := by
          intro M
          rw [ly_some]
          have hp : pick h armsG = none := by
            unfold armsG
            rw [pick, if_neg (by omega), pick, if_neg (by omega), pick, if_neg (by omega)]
            rfl
          rw [hp]
        have e3 : moL h x y = [h] := by unfold moL; rw [if_neg h2]
        refine ⟨fun hb => ?_, fun _ N => ?_⟩
        · exfalso
          unfold moB at hb
          rw [decide_eq_false (show ¬h ≤ 2 by omega)] at hb
          simp at hb
        · rw [ly, e3, List.singleton_append, e1, e2]
          rfl
  · have e0 : ∀ M, numL 0 4294967295 4 (h :: M) [] = .error 4 := by
      intro M; unfold numL; dsimp only; rw [if_neg hr]
    refine ⟨fun hb => ?_, fun _ N => ?_⟩
    · exfalso
      simp [moB] at hb
      omega
    · obtain ⟨M, hM⟩ := hd
      rw [ly, hM, List.cons_append]
      unfold armL
      rw [e0]
      rfl
/-- What Encode answers by the form of a Set. -/
def setB (b0 b1 b2 : Bool) (x0 x1 x2 h0 h1 a0 a1 m0 m1 : Int) : Bool := peB 117 b0 x0 && peB 117 b1 x1 && peB 117 b2 x2 && moB h0 a0 a1 && moB h1 m0 m1
theorem preL_err (p : List UInt8) (e : Int) : preL p (.error e) = .error e := rfl
theorem enc_g (b0 b1 b2 b3 : Bool) (x0 x1 x2 x3 h0 h1 a0 a1 m0 m1 : Int) (k0 : I64 x0) (k1 : I64 x1) (k2 : I64 x2) (k3 : I64 x3) :
    (setB b0 b1 b2 x0 x1 x2 h0 h1 a0 a1 m0 m1 = true → ∃ b, encO afG (putL b0 b1 b2 b3 x0 x1 x2 x3 h0 h1 a0 a1 m0 m1) [] = .ok b) ∧ (setB b0 b1 b2 x0 x1 x2 h0 h1 a0 a1 m0 m1 = false → encO afG (putL b0 b1 b2 b3 x0 x1 x2 x3 h0 h1 a0 a1 m0 m1) [] = .error 4) := by
  have hp : putL b0 b1 b2 b3 x0 x1 x2 x3 h0 h1 a0 a1 m0 m1 = peL b0 x0 ++ (peL b1 x1 ++ (peL b2 x2 ++ (peL b3 x3 ++ (moL h0 a0 a1 ++ (moL h1 m0 m1 ++ []))))) := by
    unfold putL; simp only [List.nil_append, List.append_nil, List.append_assoc]
  unfold encO
  rw [form_g]
  dsimp only
  unfold laidO
  rw [hp]
  obtain ⟨c3, -⟩ := ly_pe 113 (.inr rfl) b3 x3 k3 (.ch armsG (.ch armsG .nil))
  obtain ⟨p3, l3, q3⟩ := c3 (by simp [peB])
  unfold rowG setB
  obtain ⟨c0, d0⟩ := ly_pe 117 (.inl rfl) b0 x0 k0 (.opt 63 (.one 117 .nil) (.opt 63 (.one 117 .nil) (.opt 63 (.one 113 .nil) (.ch armsG (.ch armsG .nil)))))
  cases w0 : peB 117 b0 x0
  · exact ⟨fun h => by simp at h, fun _ => by rw [d0 w0]⟩
  obtain ⟨p0, l0, q0⟩ := c0 w0
  rw [q0]
  obtain ⟨c1, d1⟩ := ly_pe 117 (.inl rfl) b1 x1 k1 (.opt 63 (.one 117 .nil) (.opt 63 (.one 113 .nil) (.ch armsG (.ch armsG .nil))))
  cases w1 : peB 117 b1 x1
  · exact ⟨fun h => by simp at h, fun _ => by rw [d1 w1, preL_err]⟩
  obtain ⟨p1, l1, q1⟩ := c1 w1
  rw [q1]
  obtain ⟨c2, d2⟩ := ly_pe 117 (.inl rfl) b2 x2 k2 (.opt 63 (.one 113 .nil) (.ch armsG (.ch armsG .nil)))
  cases w2 : peB 117 b2 x2
  · exact ⟨fun h => by simp at h, fun _ => by rw [d2 w2, preL_err, preL_err]⟩
  obtain ⟨p2, l2, q2⟩ := c2 w2
  rw [q2, q3]
  obtain ⟨c4, d4⟩ := ly_mo h0 a0 a1 (.ch armsG .nil)
  cases w4 : moB h0 a0 a1
  · exact ⟨fun h => by simp at h, fun _ => by rw [d4 w4, preL_err, preL_err, preL_err, preL_err]⟩
  obtain ⟨p4, l4, q4⟩ := c4 w4
  rw [q4]
  obtain ⟨c5, d5⟩ := ly_mo h1 m0 m1 .nil
  cases w5 : moB h1 m0 m1
  · exact ⟨fun h => by simp at h, fun _ => by rw [d5 w5, preL_err, preL_err, preL_err, preL_err, preL_err]⟩
  obtain ⟨p5, l5, q5⟩ := c5 w5
  rw [q5, ly]
  simp only [preL]
  refine ⟨fun _ => ⟨p0 ++ (p1 ++ (p2 ++ (p3 ++ (p4 ++ (p5 ++ []))))), ?_⟩, fun h => by simp at h⟩
  rw [if_pos (by simp)]
  dsimp only
  rw [if_neg (by simp only [List.length_append, List.length_nil]; omega)]
end Go.Proofs.YtakfpfnaogdmlaaDoor
