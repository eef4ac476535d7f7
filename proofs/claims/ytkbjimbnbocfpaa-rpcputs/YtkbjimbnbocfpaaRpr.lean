/-
  The document's PutReply answers as the program's does. Its condition: the body is of a length that a machine has.
-/
import Derived.Test.YtkbjimbnbocfpaaTr
import Derived.Test.YtkbjimbnbocfpaaRef
import Derived.Deep.DeepCutAuto
import Derived.Deep.RegionHeld3
namespace Go.Proofs.Ytkbjimbnbocfpaa
open Go.RowKit

set_option maxHeartbeats 400000 in
theorem word_any (n : Int) (w : World) (b : Bool) (hb : isU n = b) : Calls Try.prog 26 #[.int .i64 n] w fun e w' => e = .returned (.bool b) ∧ w = w' := by
  subst hb
  by_cases h0 : 0 ≤ n
  · by_cases h1 : n ≤ 4294967295
    · go_enter Try.func26, Try.ntmps26
      go_wp2
      go_ret
      exact ⟨by simp [isU, h0, h1], rfl⟩
    · go_enter Try.func26, Try.ntmps26
      go_wp2
      go_ret
      exact ⟨by simp [isU, h1], rfl⟩
  · go_enter Try.func26, Try.ntmps26
    go_wp2
    go_ret
    exact ⟨congrArg (fun z => Ending.returned (.bool z)) (decide_eq_false (fun h => absurd h.1 (by omega))).symm, rfl⟩

/-- The reply in its box, in the middle of the document's PutReply. -/
structure Kb (w0 : World) (B : Nat) (R : Rp) (w : World) : Prop where
  blk : w.heap[B]? = some (.cells R.cells 51 (0, 0))
  low : Below w0.heap.size w0 w
theorem Kb.step {w0 w w' : World} {B : Nat} {R : Rp} (h : Kb w0 B R w) (hb : Below w.heap.size w w') : Kb w0 B R w' :=
  ⟨(hb.block _ (Array.getElem?_eq_some_iff.1 h.blk).1).trans h.blk, h.low.trans (hb.mono h.low.size)⟩
theorem Kb.drew {w0 w : World} {B : Nat} {R : Rp} (h : Kb w0 B R w) : Kb w0 B R w.drew := ⟨h.blk, h.low.drew⟩
theorem Kb.all {w0 w : World} {B : Nat} {R : Rp} (h : Kb w0 B R w) : w.cell? ⟨B, 0, none⟩ = some (.int .i64 R.xid) ∧ w.cell? ⟨B, 1, none⟩ = some (.int .i64 R.v) ∧ w.cell? ⟨B, 2, none⟩ = some (.int .i64 R.low) ∧ w.cell? ⟨B, 3, none⟩ = some (.int .i64 R.high) ∧ w.cell? ⟨B, 4, none⟩ = some (.string R.body) := by
  refine ⟨?_, ?_, ?_, ?_, ?_⟩ <;> (rw [cell_of_row w B _ _ _ _ h.blk]; rfl)
theorem refUint_k {w0 w : World} {B : Nat} {R : Rp} (n : Int) (h : Kb w0 B R w) :
    Calls Try.prog 27 #[.int .i64 n] w fun e w' => e = .returned (.string ⟨(numBytes n 4).toArray⟩) ∧ Kb w0 B R w' :=
  (refUint_any n w).mono fun _ _ ⟨a, b⟩ => ⟨a, h.step b⟩
theorem bytes_nil0 {b : ByteArray} (h : b.toList.isEmpty = true) : b = ⟨#[]⟩ := by
  have h1 : b.toList = [] := List.isEmpty_iff.1 h
  apply ByteArray.ext
  apply Array.ext'
  simpa [ByteArray.toList_eq] using h1
theorem refUint_n {w0 w : World} {B : Nat} {R : Rp} (n : Int) (N : List UInt8) (hN : numBytes n 4 = N) (h : Kb w0 B R w) :
    Calls Try.prog 27 #[.int .i64 n] w fun e w' => e = .returned (.string ⟨N.toArray⟩) ∧ Kb w0 B R w' := by
  subst hN
  exact refUint_k n h
theorem Kb.c {w0 w : World} {B : Nat} {xid v low high : Int} {body : ByteArray} (h : Kb w0 B ⟨xid, v, low, high, body⟩ w) : w.cell? ⟨B, 1, none⟩ = some (.int .i64 v) ∧ w.cell? ⟨B, 2, none⟩ = some (.int .i64 low) ∧ w.cell? ⟨B, 3, none⟩ = some (.int .i64 high) := ⟨h.all.2.1, h.all.2.2.1, h.all.2.2.2.1⟩
theorem ret_si {a b : ByteArray} {e : Int} (h : a = b) : Ending.returned (.tuple #[.string a, .int .i64 e]) = .returned (.tuple #[.string b, .int .i64 e]) := by rw [h]
theorem cat_body (a : List UInt8) (b : ByteArray) : (({ data := a.toArray } : ByteArray) ++ b) = ⟨(a ++ b.data.toList).toArray⟩ := by
  apply ByteArray.ext
  rw [ByteArray.data_append]; simp
/-- What stands behind the Xid and the kind in the document's PutReply. -/
def Rp.midR (r : Rp) : List UInt8 := if r.v = 6 then numBytes 1 4 ++ numBytes 0 4 else if r.v = 7 then (numBytes 1 4 ++ numBytes 1 4) ++ numBytes r.low 4 else ((numBytes 0 4 ++ numBytes 0 4) ++ numBytes 0 4) ++ numBytes r.v 4
theorem head_R (r : Rp) : r.head = ((numBytes r.xid 4 ++ numBytes 1 4) ++ r.midR) ++ (if hiB r.v then numBytes r.low 4 ++ numBytes r.high 4 else []) := by
  have e : opaqueOf ⟨#[]⟩ = numBytes 0 4 := by decide +kernel
  unfold Rp.head Rp.mid Rp.midR
  by_cases h6 : r.v = 6
  · simp [h6, putU, loB, hiB]
  · by_cases h7 : r.v = 7
    · simp [h7, putU, loB, hiB]
    · by_cases h2 : r.v = 2
      · simp [h2, putU, loB, hiB, e]
      · simp [h6, h7, h2, putU, loB, hiB, e]
/-- The first test of the document's PutReply. -/
def Rp.t1 (r : Rp) : Bool := decide (0 ≤ r.v) && (decide (r.v ≤ 7) && (isU r.xid && (isU r.low && isU r.high)))
def Rp.t2 (r : Rp) : Bool := (loB r.v || r.low == 0) && ((hiB r.v || r.high == 0) && (boB r.v || r.body.toList.isEmpty))
theorem ok_t (r : Rp) : r.ok = (r.t1 && r.t2) := by
  unfold Rp.ok Rp.t1 Rp.t2 areU
  simp only [List.all_cons, List.all_nil, Bool.and_true]
  cases decide (0 ≤ r.v) <;> cases decide (r.v ≤ 7) <;> cases isU r.xid <;> cases isU r.low <;> cases isU r.high <;> cases (loB r.v || r.low == 0) <;> cases (hiB r.v || r.high == 0) <;> rfl

set_option maxRecDepth 100000 in
set_option maxHeartbeats 4000000 in
theorem refPutReply_any (r : Rp) (w : World) (hs : r.body.size ≤ 140737488355328) (S : ByteArray) (E : Int) (hS : (if r.ok then restS r.head r.body else ⟨#[]⟩) = S) (hE : (if r.ok then restC r.head r.body else 4) = E) :
    Calls Try.prog 17 #[.agg r.cells] w fun e w' => e = .returned (.tuple #[.string S, .int .i64 E]) ∧ Below w.heap.size w w' := by
  have HS := Lib.hid hS
  have HE := Lib.hid hE
  clear hS hE
  have hb : r.body.size ≤ 140737488355328 := hs
  have hK : Kb w w.heap.size r (w.alloc (.cells r.cells 51)) := ⟨heap_alloc_new w _, (Below.refl _ w).alloc (Nat.le_refl _) _⟩
  obtain ⟨b1, e1⟩ : ∃ b, r.t1 = b := ⟨_, rfl⟩
  obtain ⟨b2, e2⟩ : ∃ b, r.t2 = b := ⟨_, rfl⟩
  obtain ⟨bh, e3⟩ : ∃ b, hiB r.v = b := ⟨_, rfl⟩
  obtain ⟨M, e4⟩ : ∃ M, r.midR = M := ⟨_, rfl⟩
  have H1 := Lib.hid e1
  have H2 := Lib.hid e2
  have H3 := Lib.hid e3
  have H4 := Lib.hid e4
  clear e1 e2 e3 e4
  obtain ⟨R, hR⟩ : ∃ R, R = r := ⟨_, rfl⟩
  rw [← hR] at hK H1 H2 H3 H4 HS HE
  obtain ⟨xid, v, low, high, body⟩ := r
  have HR := Lib.hid hR
  clear hR
  dsimp only at hs hb
  have hK' : Kb w w.heap.size R (w.alloc (.cells #[.int .i64 xid, .int .i64 v, .int .i64 low, .int .i64 high, .string body] 51)) := by rw [HR.out] at hK ⊢; exact hK
  clear hK
  have hbs := Lib.hid hb
  clear hb
  obtain ⟨ux, ex⟩ : ∃ b, isU xid = b := ⟨_, rfl⟩
  obtain ⟨ul, el⟩ : ∃ b, isU low = b := ⟨_, rfl⟩
  obtain ⟨uh, eh⟩ : ∃ b, isU high = b := ⟨_, rfl⟩
  have Hux := Lib.hid ex
  have Hul := Lib.hid el
  have Huh := Lib.hid eh
  clear ex el eh
  go_enter Try.func17, Try.ntmps17
  go_upto_region 1 with (fail)
  generalize (w.alloc (.cells #[.int .i64 xid, .int .i64 v, .int .i64 low, .int .i64 high, .string body] 51)) = W at *
  generalize hB : w.heap.size = B at *
  have HB := Lib.hid hB
  clear hB
  have x0 : W.cell? ⟨B, 0, none⟩ = some (.int .i64 xid) := by have := hK'.all.1; rw [HR.out] at this; exact this
  have x1 : W.cell? ⟨B, 1, none⟩ = some (.int .i64 v) := by have := hK'.all.2.1; rw [HR.out] at this; exact this
  have x2 : W.cell? ⟨B, 2, none⟩ = some (.int .i64 low) := by have := hK'.all.2.2.1; rw [HR.out] at this; exact this
  have x3 : W.cell? ⟨B, 3, none⟩ = some (.int .i64 high) := by have := hK'.all.2.2.2.1; rw [HR.out] at this; exact this
  have x4 : W.cell? ⟨B, 4, none⟩ = some (.string body) := by have := hK'.all.2.2.2.2; rw [HR.out] at this; exact this
  have HK := Lib.hid hK'
  clear hK'
  go_cut [31] (fun p wc => p = .bool (!b1) ∧ wc = W)
  case first =>
    have q1 := H1.out
    rw [HR.out] at q1
    unfold Rp.t1 at q1
    dsimp only at q1
    rw [Hux.out, Hul.out, Huh.out] at q1
    have Q1 := Lib.hid q1
    clear q1
    by_cases h0 : 0 ≤ v
    · by_cases h7 : v ≤ 7
      · have d0 : decide (0 ≤ v) = true := decide_eq_true h0
        have d7 : decide (v ≤ 7) = true := decide_eq_true h7
        cases ux with
        | false =>
          go_wp2_with (go_at_call 26; refine (word_any xid _ false Hux.out).mono ?_; rintro e w' ⟨rfl, rfl⟩)
          go_meet
          exact ⟨congrArg Value.bool (by rw [← Q1.out, d0, d7]; rfl), rfl⟩
        | true =>
          cases ul with
          | false =>
            go_wp2_with (first
              | (go_at_call 26; with_reducible refine (word_any xid _ true Hux.out).mono ?_; rintro e w' ⟨rfl, rfl⟩)
              | (go_at_call 26; with_reducible refine (word_any low _ false Hul.out).mono ?_; rintro e w' ⟨rfl, rfl⟩))
            go_meet
            exact ⟨congrArg Value.bool (by rw [← Q1.out, d0, d7]; rfl), rfl⟩
          | true =>
            go_wp2_with (first
              | (go_at_call 26; with_reducible refine (word_any xid _ true Hux.out).mono ?_; rintro e w' ⟨rfl, rfl⟩)
              | (go_at_call 26; with_reducible refine (word_any low _ true Hul.out).mono ?_; rintro e w' ⟨rfl, rfl⟩)
              | (go_at_call 26; with_reducible refine (word_any high _ uh Huh.out).mono ?_; rintro e w' ⟨rfl, rfl⟩))
            go_meet
            exact ⟨congrArg Value.bool (by rw [← Q1.out, d0, d7, decide_eq_false (show ¬ v < 0 by omega), decide_eq_false (show ¬ 7 < v by omega)]; rfl), rfl⟩
      · have hd : decide (v ≤ 7) = false := decide_eq_false h7
        go_wp2
        go_meet
        refine ⟨congrArg Value.bool ?_, rfl⟩
        rw [← Q1.out, hd]
        simp
    · have hd : decide (0 ≤ v) = false := decide_eq_false h0
      go_wp2
      go_meet
      refine ⟨congrArg Value.bool ?_, rfl⟩
      rw [← Q1.out, hd]
      simp
  case rest =>
    obtain ⟨rfl, rfl⟩ := hcut
    cases b1 with
    | false =>
      have ho : R.ok = false := by rw [ok_t, H1.out]; rfl
      have hS := HS.out
      have hE := HE.out
      rw [ho] at hS hE
      simp only [Bool.false_eq_true, if_false] at hS hE
      subst hS hE
      go_wp2
      go_ret2
      exact ⟨rfl, HK.out.low⟩
    | true =>
      go_upto_region 3 with (fail)
      go_cut [4] (fun p wd => p = .bool bh ∧ wd = wc)
      case first =>
        have q3 := H3.out
        rw [HR.out] at q3
        unfold hiB at q3
        dsimp only at q3
        by_cases h2 : v = 2
        · subst h2
          go_wp2
          go_meet
          exact ⟨congrArg Value.bool q3, rfl⟩
        · have hb2 : (v == 2) = false := by simpa using h2
          rw [hb2] at q3
          have Q3 := Lib.hid q3
          clear q3
          by_cases h6 : v = 6
          · subst h6
            go_wp2
            go_meet
            exact ⟨congrArg Value.bool Q3.out, rfl⟩
          · have hb6 : (v == 6) = false := by simpa using h6
            go_wp2
            go_meet
            exact ⟨congrArg Value.bool (by rw [← Q3.out, hb6]; rfl), rfl⟩
      case rest =>
        obtain ⟨rfl, rfl⟩ := hcut
        go_upto_region 4 with (fail)
        go_cut [70] (fun p wd => p = .bool (!b2) ∧ wd = wc)
        case first =>
          have q2 := H2.out
          rw [HR.out] at q2
          unfold Rp.t2 loB at q2
          dsimp only at q2
          have q3 := H3.out
          rw [HR.out] at q3
          dsimp only at q3
          rw [q3] at q2
          cases bh with
          | true =>
            have hv0 : v ≠ 0 := by intro h; subst h; cases q3
            have hb0 : (v == 0) = false := by simpa using hv0
            have hn0 : (v != 0) = true := by simpa using hv0
            have e0 : boB v = false := hb0
            rw [e0] at q2
            have Q2 := Lib.hid q2
            clear q2 q3 e0
            cases hbe : body.toList.isEmpty with
            | true =>
              have hb := bytes_nil0 hbe
              subst hb
              go_wp2
              go_meet
              exact ⟨congrArg Value.bool (by rw [← Q2.out]; kernel_rfl), rfl⟩
            | false =>
              have hne : body.toList ≠ [] := by intro h; rw [h] at hbe; cases hbe
              have hbq : (body.toList == []) = false := by simpa using hne
              have hbn : (body.toList != []) = true := by simpa using hne
              go_wp2
              all_goals (go_meet; refine ⟨congrArg Value.bool (by rw [← Q2.out]; simp [hne]), rfl⟩)
          | false =>
            rw [Bool.false_or, Bool.false_or] at q2
            have Q2 := Lib.hid q2
            clear q2 q3
            by_cases c7 : v = 7
            · subst c7
              by_cases ch : high = 0
              · subst ch
                cases hbe : body.toList.isEmpty with
                | true =>
                  have hb := bytes_nil0 hbe
                  subst hb
                  go_wp2
                  go_meet
                  exact ⟨congrArg Value.bool (by rw [← Q2.out]; kernel_rfl), rfl⟩
                | false =>
                  have hne : body.toList ≠ [] := by intro h; rw [h] at hbe; cases hbe
                  have hbq : (body.toList == []) = false := by simpa using hne
                  have hbn : (body.toList != []) = true := by simpa using hne
                  go_wp2
                  all_goals (go_meet; refine ⟨congrArg Value.bool (by rw [← Q2.out]; simp [hbe, boB]), rfl⟩)
              · have hbh : (high == 0) = false := by simpa using ch
                have hbh2 : (high != 0) = true := by simpa using ch
                go_wp2
                go_meet
                exact ⟨congrArg Value.bool (by rw [← Q2.out, hbh]; simp), rfl⟩
            · have hb7 : (v == 7) = false := by simpa using c7
              have hb7n : (v != 7) = true := by simpa using c7
              rw [hb7] at Q2
              by_cases cl : low = 0
              · subst cl
                by_cases ch : high = 0
                · subst ch
                  by_cases c0 : v = 0
                  · subst c0
                    go_wp2
                    go_meet
                    exact ⟨congrArg Value.bool (by rw [← Q2.out]; simp [boB]), rfl⟩
                  · have hb0 : (v == 0) = false := by simpa using c0
                    have hb0n : (v != 0) = true := by simpa using c0
                    cases hbe : body.toList.isEmpty with
                    | true =>
                      have hb := bytes_nil0 hbe
                      subst hb
                      go_wp2
                      go_meet
                      exact ⟨congrArg Value.bool (by rw [← Q2.out]; simp), rfl⟩
                    | false =>
                      have hne : body.toList ≠ [] := by intro h; rw [h] at hbe; cases hbe
                      have hbq : (body.toList == []) = false := by simpa using hne
                      have hbn : (body.toList != []) = true := by simpa using hne
                      go_wp2
                      all_goals (go_meet; refine ⟨congrArg Value.bool (by rw [← Q2.out]; simp [hbe, boB, hb0]), rfl⟩)
                · have hbh : (high == 0) = false := by simpa using ch
                  have hbh2 : (high != 0) = true := by simpa using ch
                  go_wp2
                  go_meet
                  exact ⟨congrArg Value.bool (by rw [← Q2.out, hbh]; simp), rfl⟩
              · have hbl : (low == 0) = false := by simpa using cl
                have hbl2 : (low != 0) = true := by simpa using cl
                go_wp2
                go_meet
                exact ⟨congrArg Value.bool (by rw [← Q2.out, hbl]; simp), rfl⟩
        case rest =>
          obtain ⟨rfl, rfl⟩ := hcut
          cases b2 with
          | false =>
            have ho : R.ok = false := by rw [ok_t, H1.out, H2.out]; rfl
            have hS := HS.out
            have hE := HE.out
            rw [ho] at hS hE
            simp only [Bool.false_eq_true, if_false] at hS hE
            subst hS hE
            go_wp2
            go_ret2
            exact ⟨rfl, HK.out.low⟩
          | true =>
            have ho : R.ok = true := by rw [ok_t, H1.out, H2.out]; rfl
            have hS := HS.out
            have hE := HE.out
            rw [ho] at hS hE
            simp only [if_true] at hS hE
            have hhd := head_R R
            have q3 := H3.out
            have hR := HR.out
            subst hR
            dsimp only at hS hE hhd q3
            rw [q3] at hhd
            generalize (Rp.mk xid v low high body).head = hd at hS hE hhd
            unfold Rp.midR at hhd
            dsimp only at hhd
            have hk := HK.out
            clear HK HS HE H1 H2 H4 HR x0 x1 x2 x3 x4 ho
            obtain ⟨N0, n0⟩ : ∃ N, numBytes 0 4 = N := ⟨_, rfl⟩
            obtain ⟨N1, n1⟩ : ∃ N, numBytes 1 4 = N := ⟨_, rfl⟩
            obtain ⟨Nx, nx⟩ : ∃ N, numBytes xid 4 = N := ⟨_, rfl⟩
            obtain ⟨Nl, nl⟩ : ∃ N, numBytes low 4 = N := ⟨_, rfl⟩
            obtain ⟨Nh, nh⟩ : ∃ N, numBytes high 4 = N := ⟨_, rfl⟩
            obtain ⟨Nv, nv⟩ : ∃ N, numBytes v 4 = N := ⟨_, rfl⟩
            rw [n0, n1, nx, nl, nh, nv] at hhd
            have l0 : N0.length = 4 := by rw [← n0, numBytes_length]
            have l1 : N1.length = 4 := by rw [← n1, numBytes_length]
            have lx : Nx.length = 4 := by rw [← nx, numBytes_length]
            have ll : Nl.length = 4 := by rw [← nl, numBytes_length]
            have lh : Nh.length = 4 := by rw [← nh, numBytes_length]
            have lv : Nv.length = 4 := by rw [← nv, numBytes_length]
            have HN0 := Lib.hid n0
            have HN1 := Lib.hid n1
            have HNx := Lib.hid nx
            have HNl := Lib.hid nl
            have HNh := Lib.hid nh
            have HNv := Lib.hid nv
            have HHD := Lib.hid hhd
            have HS := Lib.hid hS
            have HE := Lib.hid hE
            clear n0 n1 nx nl nh nv hhd hS hE q3
            obtain ⟨x0, x1, x2, x3, x4⟩ := hk.all
            dsimp only at x0 x1 x2 x3 x4
            by_cases c6 : v = 6
            · subst c6
              have hbt : bh = true := H3.out.symm
              subst hbt
              have hhd := HHD.out
              rw [if_pos rfl, if_pos rfl] at hhd
              have hlen : hd.length = 24 := by rw [hhd]; simp only [List.length_append]; omega
              clear HHD
              have HHD := Lib.hid hhd
              clear hhd
              go_wp2_with ((go_at_call 27; first | (with_reducible refine (refUint_n xid Nx HNx.out (by assumption)).mono ?_) | (with_reducible refine (refUint_n 1 N1 HN1.out (by assumption)).mono ?_) | (with_reducible refine (refUint_n 0 N0 HN0.out (by assumption)).mono ?_) | (with_reducible refine (refUint_n low Nl HNl.out (by assumption)).mono ?_) | (with_reducible refine (refUint_n high Nh HNh.out (by assumption)).mono ?_)); (rintro e w' ⟨rfl, hk⟩); (have hkd := hk.drew); (obtain ⟨z0, z1, z2, z3, z4⟩ := hk.all); (dsimp only at z0 z1 z2 z3 z4))
              go_region_held3 (fun w' => w'.cell? ⟨B, 1, none⟩ = some (.int .i64 6) ∧ w'.cell? ⟨B, 2, none⟩ = some (.int .i64 low) ∧ w'.cell? ⟨B, 3, none⟩ = some (.int .i64 high)) (exact Kb.c (by assumption)) (first | ((go_at_call 27; first | (with_reducible refine (refUint_n xid Nx HNx.out (by assumption)).mono ?_) | (with_reducible refine (refUint_n 1 N1 HN1.out (by assumption)).mono ?_) | (with_reducible refine (refUint_n 0 N0 HN0.out (by assumption)).mono ?_) | (with_reducible refine (refUint_n low Nl HNl.out (by assumption)).mono ?_) | (with_reducible refine (refUint_n high Nh HNh.out (by assumption)).mono ?_)); (rintro e w' ⟨rfl, hk⟩); (have hkd := hk.drew); (obtain ⟨z0, z1, z2, z3, z4⟩ := hk.all); (dsimp only at z0 z1 z2 z3 z4)))
              by_cases hr : body.size % 4 ≠ 0 ∨ 65536 < 24 + body.size
              · have hS := HS.out
                have hE := HE.out
                unfold restS at hS
                unfold restC at hE
                rw [if_pos (by rw [hlen]; exact hr)] at hS hE
                subst hS hE
                by_cases hr4 : body.size % 4 = 0
                · have hm : ((body.size : Int) % 4 != 0) = false := by simp; omega
                  go_wp2
                  all_goals first
                    | (go_ret2; exact ⟨rfl, (by assumption : Kb _ _ _ _).low⟩)
                    | (exfalso; omega)
                · have hm : ((body.size : Int) % 4 != 0) = true := by simp; omega
                  go_wp2
                  all_goals first
                    | (go_ret2; exact ⟨rfl, (by assumption : Kb _ _ _ _).low⟩)
                    | (exfalso; omega)
              · have hS := HS.out
                have hE := HE.out
                unfold restS at hS
                unfold restC at hE
                rw [if_neg (by rw [hlen]; exact hr)] at hS hE
                subst hS hE
                have hm : ((body.size : Int) % 4 != 0) = false := by simp; omega
                go_wp2
                all_goals first
                  | (go_ret2; refine ⟨ret_si ?_, (by assumption : Kb _ _ _ _).low⟩; rw [HHD.out]; simp only [cat_body, List.append_assoc]; done)
                  | (exfalso; omega)
            · have hb6 : (v == 6) = false := by simpa using c6
              by_cases c7 : v = 7
              · subst c7
                have hbt : bh = false := H3.out.symm
                subst hbt
                have hhd := HHD.out
                rw [if_neg (by decide), if_pos rfl, if_neg (by decide), List.append_nil] at hhd
                have hlen : hd.length = 20 := by rw [hhd]; simp only [List.length_append]; omega
                clear HHD
                have HHD := Lib.hid hhd
                clear hhd
                go_wp2_with ((go_at_call 27; first | (with_reducible refine (refUint_n xid Nx HNx.out (by assumption)).mono ?_) | (with_reducible refine (refUint_n 1 N1 HN1.out (by assumption)).mono ?_) | (with_reducible refine (refUint_n 0 N0 HN0.out (by assumption)).mono ?_) | (with_reducible refine (refUint_n low Nl HNl.out (by assumption)).mono ?_) | (with_reducible refine (refUint_n high Nh HNh.out (by assumption)).mono ?_)); (rintro e w' ⟨rfl, hk⟩); (have hkd := hk.drew); (obtain ⟨z0, z1, z2, z3, z4⟩ := hk.all); (dsimp only at z0 z1 z2 z3 z4))
                go_region_held3 (fun w' => w'.cell? ⟨B, 1, none⟩ = some (.int .i64 7) ∧ w'.cell? ⟨B, 2, none⟩ = some (.int .i64 low) ∧ w'.cell? ⟨B, 3, none⟩ = some (.int .i64 high)) (exact Kb.c (by assumption)) (first | ((go_at_call 27; first | (with_reducible refine (refUint_n xid Nx HNx.out (by assumption)).mono ?_) | (with_reducible refine (refUint_n 1 N1 HN1.out (by assumption)).mono ?_) | (with_reducible refine (refUint_n 0 N0 HN0.out (by assumption)).mono ?_) | (with_reducible refine (refUint_n low Nl HNl.out (by assumption)).mono ?_) | (with_reducible refine (refUint_n high Nh HNh.out (by assumption)).mono ?_)); (rintro e w' ⟨rfl, hk⟩); (have hkd := hk.drew); (obtain ⟨z0, z1, z2, z3, z4⟩ := hk.all); (dsimp only at z0 z1 z2 z3 z4)))
                by_cases hr : body.size % 4 ≠ 0 ∨ 65536 < 20 + body.size
                · have hS := HS.out
                  have hE := HE.out
                  unfold restS at hS
                  unfold restC at hE
                  rw [if_pos (by rw [hlen]; exact hr)] at hS hE
                  subst hS hE
                  by_cases hr4 : body.size % 4 = 0
                  · have hm : ((body.size : Int) % 4 != 0) = false := by simp; omega
                    go_wp2
                    all_goals first
                      | (go_ret2; exact ⟨rfl, (by assumption : Kb _ _ _ _).low⟩)
                      | (exfalso; omega)
                  · have hm : ((body.size : Int) % 4 != 0) = true := by simp; omega
                    go_wp2
                    all_goals first
                      | (go_ret2; exact ⟨rfl, (by assumption : Kb _ _ _ _).low⟩)
                      | (exfalso; omega)
                · have hS := HS.out
                  have hE := HE.out
                  unfold restS at hS
                  unfold restC at hE
                  rw [if_neg (by rw [hlen]; exact hr)] at hS hE
                  subst hS hE
                  have hm : ((body.size : Int) % 4 != 0) = false := by simp; omega
                  go_wp2
                  all_goals first
                    | (go_ret2; refine ⟨ret_si ?_, (by assumption : Kb _ _ _ _).low⟩; rw [HHD.out]; simp only [cat_body, List.append_assoc]; done)
                    | (exfalso; omega)
              · have hb7 : (v == 7) = false := by simpa using c7
                cases bh with
                | false =>
                  have hhd := HHD.out
                  rw [if_neg c6, if_neg c7, if_neg (by decide), List.append_nil] at hhd
                  have hlen : hd.length = 24 := by rw [hhd]; simp only [List.length_append]; omega
                  clear HHD
                  have HHD := Lib.hid hhd
                  clear hhd
                  go_wp2_with ((go_at_call 27; first | (with_reducible refine (refUint_n xid Nx HNx.out (by assumption)).mono ?_) | (with_reducible refine (refUint_n 1 N1 HN1.out (by assumption)).mono ?_) | (with_reducible refine (refUint_n 0 N0 HN0.out (by assumption)).mono ?_) | (with_reducible refine (refUint_n low Nl HNl.out (by assumption)).mono ?_) | (with_reducible refine (refUint_n high Nh HNh.out (by assumption)).mono ?_) | (with_reducible refine (refUint_n v Nv HNv.out (by assumption)).mono ?_)); (rintro e w' ⟨rfl, hk⟩); (have hkd := hk.drew); (obtain ⟨z0, z1, z2, z3, z4⟩ := hk.all); (dsimp only at z0 z1 z2 z3 z4))
                  go_region_held3 (fun w' => w'.cell? ⟨B, 1, none⟩ = some (.int .i64 v) ∧ w'.cell? ⟨B, 2, none⟩ = some (.int .i64 low) ∧ w'.cell? ⟨B, 3, none⟩ = some (.int .i64 high)) (exact Kb.c (by assumption)) (first | ((go_at_call 27; first | (with_reducible refine (refUint_n xid Nx HNx.out (by assumption)).mono ?_) | (with_reducible refine (refUint_n 1 N1 HN1.out (by assumption)).mono ?_) | (with_reducible refine (refUint_n 0 N0 HN0.out (by assumption)).mono ?_) | (with_reducible refine (refUint_n low Nl HNl.out (by assumption)).mono ?_) | (with_reducible refine (refUint_n high Nh HNh.out (by assumption)).mono ?_) | (with_reducible refine (refUint_n v Nv HNv.out (by assumption)).mono ?_)); (rintro e w' ⟨rfl, hk⟩); (have hkd := hk.drew); (obtain ⟨z0, z1, z2, z3, z4⟩ := hk.all); (dsimp only at z0 z1 z2 z3 z4)))
                  by_cases hr : body.size % 4 ≠ 0 ∨ 65536 < 24 + body.size
                  · have hS := HS.out
                    have hE := HE.out
                    unfold restS at hS
                    unfold restC at hE
                    rw [if_pos (by rw [hlen]; exact hr)] at hS hE
                    subst hS hE
                    by_cases hr4 : body.size % 4 = 0
                    · have hm : ((body.size : Int) % 4 != 0) = false := by simp; omega
                      go_wp2
                      all_goals first
                        | (go_ret2; exact ⟨rfl, (by assumption : Kb _ _ _ _).low⟩)
                        | (exfalso; omega)
                    · have hm : ((body.size : Int) % 4 != 0) = true := by simp; omega
                      go_wp2
                      all_goals first
                        | (go_ret2; exact ⟨rfl, (by assumption : Kb _ _ _ _).low⟩)
                        | (exfalso; omega)
                  · have hS := HS.out
                    have hE := HE.out
                    unfold restS at hS
                    unfold restC at hE
                    rw [if_neg (by rw [hlen]; exact hr)] at hS hE
                    subst hS hE
                    have hm : ((body.size : Int) % 4 != 0) = false := by simp; omega
                    go_wp2
                    all_goals first
                      | (go_ret2; refine ⟨ret_si ?_, (by assumption : Kb _ _ _ _).low⟩; rw [HHD.out]; simp only [cat_body, List.append_assoc]; done)
                      | (exfalso; omega)
                | true =>
                  have hhd := HHD.out
                  rw [if_neg c6, if_neg c7, if_pos rfl] at hhd
                  have hlen : hd.length = 32 := by rw [hhd]; simp only [List.length_append]; omega
                  clear HHD
                  have HHD := Lib.hid hhd
                  clear hhd
                  go_wp2_with ((go_at_call 27; first | (with_reducible refine (refUint_n xid Nx HNx.out (by assumption)).mono ?_) | (with_reducible refine (refUint_n 1 N1 HN1.out (by assumption)).mono ?_) | (with_reducible refine (refUint_n 0 N0 HN0.out (by assumption)).mono ?_) | (with_reducible refine (refUint_n low Nl HNl.out (by assumption)).mono ?_) | (with_reducible refine (refUint_n high Nh HNh.out (by assumption)).mono ?_) | (with_reducible refine (refUint_n v Nv HNv.out (by assumption)).mono ?_)); (rintro e w' ⟨rfl, hk⟩); (have hkd := hk.drew); (obtain ⟨z0, z1, z2, z3, z4⟩ := hk.all); (dsimp only at z0 z1 z2 z3 z4))
                  go_region_held3 (fun w' => w'.cell? ⟨B, 1, none⟩ = some (.int .i64 v) ∧ w'.cell? ⟨B, 2, none⟩ = some (.int .i64 low) ∧ w'.cell? ⟨B, 3, none⟩ = some (.int .i64 high)) (exact Kb.c (by assumption)) (first | ((go_at_call 27; first | (with_reducible refine (refUint_n xid Nx HNx.out (by assumption)).mono ?_) | (with_reducible refine (refUint_n 1 N1 HN1.out (by assumption)).mono ?_) | (with_reducible refine (refUint_n 0 N0 HN0.out (by assumption)).mono ?_) | (with_reducible refine (refUint_n low Nl HNl.out (by assumption)).mono ?_) | (with_reducible refine (refUint_n high Nh HNh.out (by assumption)).mono ?_) | (with_reducible refine (refUint_n v Nv HNv.out (by assumption)).mono ?_)); (rintro e w' ⟨rfl, hk⟩); (have hkd := hk.drew); (obtain ⟨z0, z1, z2, z3, z4⟩ := hk.all); (dsimp only at z0 z1 z2 z3 z4)))
                  go_wp2_with ((go_at_call 27; first | (with_reducible refine (refUint_n xid Nx HNx.out (by assumption)).mono ?_) | (with_reducible refine (refUint_n 1 N1 HN1.out (by assumption)).mono ?_) | (with_reducible refine (refUint_n 0 N0 HN0.out (by assumption)).mono ?_) | (with_reducible refine (refUint_n low Nl HNl.out (by assumption)).mono ?_) | (with_reducible refine (refUint_n high Nh HNh.out (by assumption)).mono ?_) | (with_reducible refine (refUint_n v Nv HNv.out (by assumption)).mono ?_)); (rintro e w' ⟨rfl, hk⟩); (have hkd := hk.drew); (obtain ⟨z0, z1, z2, z3, z4⟩ := hk.all); (dsimp only at z0 z1 z2 z3 z4))
                  go_region_held3 (fun w' => w'.cell? ⟨B, 1, none⟩ = some (.int .i64 v) ∧ w'.cell? ⟨B, 2, none⟩ = some (.int .i64 low) ∧ w'.cell? ⟨B, 3, none⟩ = some (.int .i64 high)) (exact Kb.c (by assumption)) (first | ((go_at_call 27; first | (with_reducible refine (refUint_n xid Nx HNx.out (by assumption)).mono ?_) | (with_reducible refine (refUint_n 1 N1 HN1.out (by assumption)).mono ?_) | (with_reducible refine (refUint_n 0 N0 HN0.out (by assumption)).mono ?_) | (with_reducible refine (refUint_n low Nl HNl.out (by assumption)).mono ?_) | (with_reducible refine (refUint_n high Nh HNh.out (by assumption)).mono ?_) | (with_reducible refine (refUint_n v Nv HNv.out (by assumption)).mono ?_)); (rintro e w' ⟨rfl, hk⟩); (have hkd := hk.drew); (obtain ⟨z0, z1, z2, z3, z4⟩ := hk.all); (dsimp only at z0 z1 z2 z3 z4)))
                  by_cases hr : body.size % 4 ≠ 0 ∨ 65536 < 32 + body.size
                  · have hS := HS.out
                    have hE := HE.out
                    unfold restS at hS
                    unfold restC at hE
                    rw [if_pos (by rw [hlen]; exact hr)] at hS hE
                    subst hS hE
                    by_cases hr4 : body.size % 4 = 0
                    · have hm : ((body.size : Int) % 4 != 0) = false := by simp; omega
                      go_wp2
                      all_goals first
                        | (go_ret2; exact ⟨rfl, (by assumption : Kb _ _ _ _).low⟩)
                        | (exfalso; omega)
                    · have hm : ((body.size : Int) % 4 != 0) = true := by simp; omega
                      go_wp2
                      all_goals first
                        | (go_ret2; exact ⟨rfl, (by assumption : Kb _ _ _ _).low⟩)
                        | (exfalso; omega)
                  · have hS := HS.out
                    have hE := HE.out
                    unfold restS at hS
                    unfold restC at hE
                    rw [if_neg (by rw [hlen]; exact hr)] at hS hE
                    subst hS hE
                    have hm : ((body.size : Int) % 4 != 0) = false := by simp; omega
                    go_wp2
                    all_goals first
                      | (go_ret2; refine ⟨ret_si ?_, (by assumption : Kb _ _ _ _).low⟩; rw [HHD.out]; simp only [cat_body, List.append_assoc]; done)
                      | (exfalso; omega)
end Go.Proofs.Ytkbjimbnbocfpaa
