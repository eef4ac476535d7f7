/-
  NameBounds' walk: it answers true, and makes new blocks alone. No condition.
-/
import Derived.Test.YtmmfmmjjpbfmeaaDoorCw
import Derived.Laws.IdiomStrings
import Derived.Laws.MakeOwn
import Derived.Deep.DeepCutAuto
namespace Go.Proofs.YtmmfmmjjpbfmeaaDoor
open Go.RowKit
def nn (n : Nat) : ByteArray := bs (List.replicate n 110)
def xs (k : Nat) : ByteArray := bs (List.replicate k ([47, 120] : List UInt8)).flatten
theorem nn_size (n : Nat) : (nn n).size = n := by unfold nn; rw [size_bs, List.length_replicate]
theorem xs_zero : xs 0 = ByteArray.empty := rfl
theorem xs_succ (k : Nat) : xs (k + 1) = xs k ++ ⟨#[47, 120]⟩ := by
  unfold xs
  rw [List.replicate_succ', List.flatten_append, bs_append]
  rfl
theorem xs_size (k : Nat) : (xs k).size = 2 * k := by
  induction k with
  | zero => rfl
  | succ k ih => rw [xs_succ, size_append, ih]; rfl
theorem bad_nn (n : Nat) : bad (List.replicate n 110) = false := by
  unfold bad
  rw [List.any_eq_false]
  intro b hb
  rw [List.eq_of_mem_replicate hb]
  decide
theorem ck_nn (n : Nat) : ck (nn n) = if 64 < n then 63 else if n = 0 then 22 else 0 := by
  unfold ck
  rw [nn_size]
  by_cases h : 64 < n
  · rw [if_pos h, if_pos h]
  · rw [if_neg h, if_neg h, Lib.toList_data]
    unfold nn
    rw [data_bs, bad_nn]
    cases n with
    | zero => rw [if_pos (.inl rfl), if_pos rfl]
    | succ n =>
      rw [if_neg, if_neg (by omega)]
      rintro (h | h | h | h)
      · cases h
      · rw [List.replicate_succ, List.cons.injEq] at h; exact absurd h.1 (by decide)
      · rw [List.replicate_succ, List.cons.injEq] at h; exact absurd h.1 (by decide)
      · cases h
theorem pcs_xs (k : Nat) : pcs [] (List.replicate (k + 1) ([47, 120] : List UInt8)).flatten = [] :: List.replicate (k + 1) [120] := by
  have h : ∀ k, pcs [120] (List.replicate k ([47, 120] : List UInt8)).flatten = List.replicate (k + 1) [120] := by
    intro k
    induction k with
    | zero => rfl
    | succ k ih =>
      rw [List.replicate_succ, List.flatten_cons]
      show [120] :: pcs [120] (List.replicate k ([47, 120] : List UInt8)).flatten = _
      rw [ih]
      rfl
  rw [List.replicate_succ, List.flatten_cons]
  show [] :: pcs [120] (List.replicate k ([47, 120] : List UInt8)).flatten = _
  rw [h]
theorem nms_xs (k : Nat) : nms (xs (k + 1)) = List.replicate (k + 1) ⟨#[120]⟩ := by
  have h := pcs_xs k
  unfold nms xs
  rw [data_bs]
  have e : (List.replicate (k + 1) ([47, 120] : List UInt8)).flatten = 47 :: (120 :: (List.replicate k ([47, 120] : List UInt8)).flatten) := by
    rw [List.replicate_succ, List.flatten_cons]; rfl
  rw [e] at h ⊢
  rw [pcs, if_pos rfl, List.cons.injEq] at h
  rw [List.drop_succ_cons, List.drop_zero, h.2, List.map_replicate]
  rfl
theorem stat_rep (s : ByteArray) (h : ck s = 0) : ∀ k, stat (List.replicate k s) = 0
  | 0 => rfl
  | k + 1 => by
    rw [List.replicate_succ]
    unfold stat
    rw [if_pos h]
    exact stat_rep s h k
theorem sp_xs (k : Nat) (hk : k + 1 ≤ 40) : (spO (xs (k + 1))).2 = (if 16 < k + 1 then 22 else 0) ∧ (k + 1 ≤ 16 → (spO (xs (k + 1))).1.length = k + 1) := by
  have h1 : ¬ (256 < (xs (k + 1)).size ∨ Lib.hasPrefix (xs (k + 1)).data.toList [47] = false) := by
    rw [xs_size]
    rintro (h | h)
    · omega
    · unfold xs at h
      rw [data_bs, List.replicate_succ, List.flatten_cons] at h
      cases h
  have h2 : xs (k + 1) ≠ ⟨#[47]⟩ := fun h => by
    have := congrArg ByteArray.size h
    rw [xs_size] at this
    have e : (⟨#[47]⟩ : ByteArray).size = 1 := rfl
    omega
  have h3 : ck ⟨#[120]⟩ = 0 := by
    unfold ck
    rw [Lib.toList_data]
    decide
  unfold spO
  rw [if_neg h1, if_neg h2, nms_xs, List.length_replicate, stat_rep _ h3, if_pos rfl]
  by_cases h : 16 < k + 1
  · rw [if_pos h, if_pos h]
    exact ⟨rfl, fun h' => by omega⟩
  · rw [if_neg h, if_neg h]
    exact ⟨rfl, fun _ => by rw [List.length_replicate]⟩
theorem sp_nn (n : Nat) (hn : n ≤ 300) : (spO (⟨#[47]⟩ ++ nn n)).2 = 0 ↔ n ≤ 64 := by
  have hsz : ((⟨#[47]⟩ : ByteArray) ++ nn n).size = 1 + n := by rw [size_append, nn_size]; rfl
  have hd : ((⟨#[47]⟩ : ByteArray) ++ nn n).data.toList = 47 :: List.replicate n 110 := by
    rw [ByteArray.data_append, Array.toList_append]
    unfold nn
    rw [data_bs]
    rfl
  have hp : Lib.hasPrefix ((⟨#[47]⟩ : ByteArray) ++ nn n).data.toList [47] = true := by rw [hd]; rfl
  unfold spO
  rw [hsz, hp]
  by_cases h : 256 < 1 + n
  · rw [if_pos (.inl h)]
    exact ⟨fun h => (by cases h), fun h' => (by omega)⟩
  · rw [if_neg (by rintro (h' | h'); exact h h'; cases h')]
    cases n with
    | zero => rw [if_pos (by apply ByteArray.ext; apply Array.ext'; rw [hd]; rfl)]; exact ⟨fun _ => by omega, fun _ => rfl⟩
    | succ n =>
      rw [if_neg (fun h => by rw [h] at hsz; have e : (⟨#[47]⟩ : ByteArray).size = 1 := rfl; omega)]
      have hn1 : nms ((⟨#[47]⟩ : ByteArray) ++ nn (n + 1)) = [nn (n + 1)] := by
        unfold nms
        rw [hd, List.drop_succ_cons, List.drop_zero, pcs_miss _ _ (fun h => by have := List.eq_of_mem_replicate h; exact absurd this (by decide))]
        rfl
      rw [hn1, if_neg (by simp)]
      unfold stat
      rw [ck_nn]
      by_cases h64 : 64 < n + 1
      · rw [if_pos h64, if_neg (by decide), if_neg (by decide)]
        exact ⟨fun h => (by cases h), fun h => (by omega)⟩
      · rw [if_neg h64, if_neg (by omega : ¬ n + 1 = 0), if_pos rfl]
        show (if (0 : Int) = 0 then _ else _ : List ByteArray × Int).2 = 0 ↔ _
        rw [if_pos rfl]
        exact ⟨fun _ => by omega, fun _ => rfl⟩
/-- A block that is filled so far. -/
structure Fl (w : World) (B n i : Nat) (w' : World) : Prop where
  low : Below w.heap.size w w'
  hB : w.heap.size ≤ B
  row : ∃ cs : Array Value, w'.heap[B]? = some (.cells cs 5 (0, 0)) ∧ cs.size = n ∧ ∀ j, j < i → cs[j]? = some (.int .u8 110)
theorem Fl.cell {w w' : World} {B n i : Nat} (h : Fl w B n i w') (hi : i < n) : (∃ v, w'.cell? ⟨B, i, none⟩ = some v) ∧ w'.frozen? ⟨B, i, none⟩ = false := by
  obtain ⟨cs, h1, h2, h3⟩ := h.row
  refine ⟨⟨cs[i]'(by omega), ?_⟩, Lib.frozen_of_heap h1 _⟩
  rw [World.cell?]
  simp only [h1]
  simp [h2, hi]
theorem Fl.set {w w' : World} {B n i : Nat} (h : Fl w B n i w') (hi : i < n) : Fl w B n (i + 1) (w'.setCell ⟨B, i, none⟩ (.int .u8 110)) := by
  obtain ⟨cs, h1, h2, h3⟩ := h.row
  have hB := h.hB
  refine ⟨h.low.trans ⟨rfl, rfl, rfl, by simp [World.setCell], fun k hk => Below.heap_setCell _ _ _ _ (by show k ≠ B; omega)⟩, hB, cs.setIfInBounds i (.int .u8 110), ?_, by simpa using h2, fun j hj => ?_⟩
  · simp [World.setCell, Array.getElem?_modify, h1]
  · by_cases e : j = i
    · subst e
      rw [Array.getElem?_setIfInBounds_self_of_lt (by omega)]
    · rw [Array.getElem?_setIfInBounds_ne (by omega)]
      exact h3 j (by omega)
theorem Fl.keep {w w' w2 : World} {B n i : Nat} (h : Fl w B n i w') (hb : Below w'.heap.size w' w2) : Fl w B n i w2 := by
  obtain ⟨cs, h1, h2, h3⟩ := h.row
  have hl : B < w'.heap.size := (Array.getElem?_eq_some_iff.1 h1).1
  have hB := h.hB
  exact ⟨h.low.trans (hb.mono (by omega)), hB, cs, (hb.block B hl).trans h1, h2, h3⟩
theorem Fl.conv {w w' : World} {B n : Nat} (h : Fl w B n n w') : (convert 38 9 (.slice (some ⟨B, 0, none⟩) n n)).run Tryd.prog w' = .ok (.string (nn n)) w' := by
  obtain ⟨cs, h1, h2, h3⟩ := h.row
  have h := run_convert_bytes_back (P := Tryd.prog) w' 38 9 5 ⟨B, 0, none⟩ n (List.replicate n (110 : UInt8)) Tryd.underlying38 Tryd.underlying5 Tryd.underlying9 (by
    intro j hj
    rw [List.length_replicate] at hj
    rw [show (⟨B, 0, none⟩ : Addr).add j = ⟨B, j, none⟩ from by unfold Addr.add; split <;> simp_all, World.cell?]
    simp only [h1]
    have := h3 j hj
    simpa using this)
  rw [List.length_replicate] at h
  exact h
theorem info5 : (Tryd.prog.info? 5).map (fun i => (i.zero, i.size, i.bytes)) = some (some (.int .u8 0), 1, 1) := by kernel_rfl
theorem make_n (n : Nat) (hn : n ≤ 300) (u : World) : ∃ cs : Array Value, cs.size = n ∧ (Instr.makeSlice 38 (.int .i64 (n : Int)) (.int .i64 (n : Int))).run Tryd.prog u = .ok (.slice (some ⟨u.heap.size, 0, none⟩) n n) (u.alloc (.cells cs 5)) := by
  obtain ⟨i0, hi, hz0, hz1, hz2⟩ := info_parts info5
  have h := run_make (P := Tryd.prog) u 38 5 i0 (.int .u8 0) Tryd.underlying38 hi hz0 .i64 .i64 (n : Int) (n : Int) (by omega) (Int.le_refl _) (by rw [hz2]; omega) (by omega)
  have e : ((n : Int)).toNat = n := by omega
  rw [e] at h
  refine ⟨madeCells #[.int .u8 0] n, by simp [madeCells], ?_⟩
  simpa [hz1, Value.cells] using h
def inr (a b : Int) : Bool := decide (0 ≤ a ∧ a ≤ 300 ∧ 1 ≤ b ∧ b ≤ 40)
set_option maxRecDepth 100000 in
set_option maxHeartbeats 4000000 in
theorem bounds_walk (a b : Int) (w : World) : Calls Tryd.prog 6 #[.int .i64 a, .int .i64 b] w fun e w' => e = .returned (.bool true) ∧ Below w.heap.size w w' := by
  go_enter Tryd.func6, Tryd.ntmps6
  go_wp2_with fail
  refine (speaks_any _).mono ?_
  rintro e w1 ⟨rfl, hB1⟩
  have HB1 := Lib.hid hB1
  clear hB1
  go_upto_region 3 with (fail)
  go_cut [29] (fun v wc => v = .bool (!inr a b) ∧ wc = w1)
  case first =>
    go_wp2
    all_goals go_meet
    all_goals
      refine ⟨?_, rfl⟩
      refine congrArg Value.bool ?_
      rw [Bool.eq_iff_iff]
      simp [inr]
      omega
  case rest =>
    obtain ⟨rfl, rfl⟩ := hcut
    go_upto_if 29 with (fail)
    go_cut [0, 1] (fun p q wd => ∃ n k : Nat, p = .int .i64 n ∧ q = .int .i64 ((k + 1 : Nat) : Int) ∧ n ≤ 300 ∧ k + 1 ≤ 40 ∧ wd = wc)
    case first =>
      cases hin : inr a b with
      | true =>
        have h := of_decide_eq_true hin
        obtain ⟨n, rfl⟩ : ∃ n : Nat, a = n := ⟨a.toNat, by omega⟩
        obtain ⟨k, rfl⟩ : ∃ k : Nat, b = ((k + 1 : Nat) : Int) := ⟨b.toNat - 1, by omega⟩
        go_wp2
        go_meet
        exact ⟨n, k, rfl, rfl, by omega, by omega, rfl⟩
      | false =>
        clear hin
        go_wp2
        go_meet
        exact ⟨64, 15, rfl, rfl, by omega, by omega, rfl⟩
    case rest =>
      obtain ⟨n, k, rfl, rfl, hn, hk, rfl⟩ := hcut
      obtain ⟨cs, hcs, hmk⟩ := make_n n hn wc
      have HF := Lib.hid (show Fl w wc.heap.size n 0 (wc.alloc (.cells cs 5)) from ⟨HB1.out.alloc HB1.out.size _, HB1.out.size, cs, heap_alloc_new wc _, hcs, fun j hj => absurd hj (Nat.not_lt_zero _)⟩)
      clear hcs
      go_wp2_with fail
      generalize hWW : wc.alloc (.cells cs 5) = W at *
      generalize hBB : wc.heap.size = B at *
      clear hmk hWW hBB HB1
      go_loopg [6] n (fun g v wx => ∃ i : Nat, i + g = n ∧ v = .int .i64 i ∧ Fl w B n i wx)
      case atStart => exact ⟨0, by omega, rfl, HF.out⟩
      case round =>
        obtain ⟨i, hig, rfl, hF⟩ := hrel
        have HF2 := Lib.hid hF
        clear hF HF
        cases gk with
        | succ g =>
          have hi : i < n := by omega
          have hiz : (i : Int) < (n : Int) := by omega
          obtain ⟨⟨v0, hc⟩, hf⟩ := HF2.out.cell hi
          go_wp2
          go_roundg g
          case measure => omega
          case rel => exact ⟨i + 1, by omega, by first | rfl | simp, HF2.out.set hi⟩
        | zero =>
          obtain rfl : i = n := by omega
          have hiz : ¬ ((i : Int) < (i : Int)) := by omega
          have hcv := HF2.out.conv
          go_wp2_with fail
          refine (check_any (nn i) _).mono ?_
          rintro e w4 ⟨rfl, hb4⟩
          have HF4 := Lib.hid (HF2.out.keep hb4)
          clear hb4 HF2 hcv
          obtain ⟨c, hc⟩ : ∃ c, ck (nn i) = c := ⟨_, rfl⟩
          rw [hc]
          have HC := Lib.hid (hc.symm.trans (ck_nn i))
          clear hc
          go_wp2_with fail
          go_loopg [8, 9] (k + 1) (fun g v u wx => ∃ j : Nat, j + g = k + 1 ∧ v = .string (xs j) ∧ u = .int .i64 j ∧ wx = w4)
          case atStart => exact ⟨0, by omega, rfl, rfl, rfl⟩
          case round =>
            obtain ⟨j, hjg, rfl, rfl, rfl⟩ := hrel
            cases gk with
            | succ g =>
              have hj : j < k + 1 := by omega
              have hjz : (j : Int) < ((k + 1 : Nat) : Int) := by omega
              have hjz2 : (j : Int) < (k : Int) + 1 := by omega
              have HS := Lib.hid (xs_succ j)
              have hsz := xs_size j
              have hsz2 : (xs j).size ≤ 80 := by omega
              clear hsz
              generalize hy : xs j = y at *
              clear hy
              go_wp2
              go_roundg g
              case measure => omega
              case rel => exact ⟨j + 1, by omega, by rw [HS.out], by first | rfl | simp, rfl⟩
            | zero =>
              obtain rfl : j = k + 1 := by omega
              obtain ⟨q1, q2⟩ := sp_xs k hk
              have Q1 := Lib.hid q1
              have Q2 := Lib.hid q2
              clear q1 q2
              have hjz : ¬ (((k + 1 : Nat) : Int) < ((k + 1 : Nat) : Int)) := by omega
              generalize xs (k + 1) = X at *
              go_wp2_with fail
              refine (nsplit_any X _).mono ?_
              rintro e w5 ⟨ao1, cap1, rfl, hS1, hB5⟩
              have HF5 := Lib.hid (HF4.out.keep hB5)
              clear hB5 HF4 hS1
              have hcv := HF5.out.conv
              have hnl : (nn i).size ≤ 300 := by rw [nn_size]; exact hn
              go_wp2_with fail
              refine (nsplit_any _ w5).mono ?_
              rintro e w6 ⟨ao2, cap2, rfl, hS2, hB6⟩
              have HB6 := Lib.hid (HF5.out.keep hB6).low
              clear hB6 HF5 hS2 hcv hnl
              have H3 := Lib.hid (sp_nn i hn)
              obtain ⟨L2, hL2⟩ : ∃ L, (spO (⟨#[47]⟩ ++ nn i)).1.length = L := ⟨_, rfl⟩
              obtain ⟨c2, hc2⟩ : ∃ L, (spO (⟨#[47]⟩ ++ nn i)).2 = L := ⟨_, rfl⟩
              rw [hL2, hc2]
              rw [hc2] at H3
              clear hL2 hc2
              obtain ⟨L1, hL1⟩ : ∃ L, (spO X).1.length = L := ⟨_, rfl⟩
              obtain ⟨c1, hc1⟩ : ∃ L, (spO X).2 = L := ⟨_, rfl⟩
              rw [hL1, hc1]
              rw [hL1] at Q2
              rw [hc1] at Q1
              clear hL1 hc1
              by_cases hk16 : k + 1 ≤ 16
              · by_cases hi0 : i = 0
                · have hc0 : (c == 0) = false := by rw [HC.out]; subst hi0; rfl
                  have hc2 : (c2 == 0) = true := by rw [H3.out.2 (by omega)]; rfl
                  have hi1 : ¬ ((1 : Int) ≤ (i : Int)) := by omega
                  have hi2 : (i : Int) ≤ 64 := by omega
                  obtain rfl : L1 = k + 1 := Q2.out hk16
                  obtain rfl : c1 = 0 := by rw [Q1.out, if_neg (by omega)]
                  have hk1 : ((k + 1 : Nat) : Int) ≤ 16 := by omega
                  have hk2 : (k : Int) + 1 ≤ 16 := by omega
                  clear HC H3 Q1 Q2
                  go_wp2
                  go_ret
                  first | exact ⟨rfl, HB6.out⟩ | (refine ⟨?_, HB6.out⟩; simp <;> omega)
                by_cases hi64 : i ≤ 64
                · have hc0 : (c == 0) = true := by rw [HC.out]; rw [if_neg (by omega), if_neg (by omega)]; rfl
                  have hc2 : (c2 == 0) = true := by rw [H3.out.2 (by omega)]; rfl
                  have hi1 : (1 : Int) ≤ (i : Int) := by omega
                  have hi2 : (i : Int) ≤ 64 := by omega
                  obtain rfl : L1 = k + 1 := Q2.out hk16
                  obtain rfl : c1 = 0 := by rw [Q1.out, if_neg (by omega)]
                  have hk1 : ((k + 1 : Nat) : Int) ≤ 16 := by omega
                  have hk2 : (k : Int) + 1 ≤ 16 := by omega
                  clear HC H3 Q1 Q2
                  go_wp2
                  go_ret
                  first | exact ⟨rfl, HB6.out⟩ | (refine ⟨?_, HB6.out⟩; simp <;> omega)
                · have hc0 : (c == 0) = false := by rw [HC.out]; rw [if_pos (by omega)]; rfl
                  have hc2 : (c2 == 0) = false := by simpa using fun e => absurd (H3.out.1 e) (by omega)
                  have hi1 : (1 : Int) ≤ (i : Int) := by omega
                  have hi2 : ¬ ((i : Int) ≤ 64) := by omega
                  obtain rfl : L1 = k + 1 := Q2.out hk16
                  obtain rfl : c1 = 0 := by rw [Q1.out, if_neg (by omega)]
                  have hk1 : ((k + 1 : Nat) : Int) ≤ 16 := by omega
                  have hk2 : (k : Int) + 1 ≤ 16 := by omega
                  clear HC H3 Q1 Q2
                  go_wp2
                  go_ret
                  first | exact ⟨rfl, HB6.out⟩ | (refine ⟨?_, HB6.out⟩; simp <;> omega)
              · by_cases hi0 : i = 0
                · have hc0 : (c == 0) = false := by rw [HC.out]; subst hi0; rfl
                  have hc2 : (c2 == 0) = true := by rw [H3.out.2 (by omega)]; rfl
                  have hi1 : ¬ ((1 : Int) ≤ (i : Int)) := by omega
                  have hi2 : (i : Int) ≤ 64 := by omega
                  obtain rfl : c1 = 22 := by rw [Q1.out, if_pos (by omega)]
                  have hk1 : ¬ (((k + 1 : Nat) : Int) ≤ 16) := by omega
                  have hk2 : ¬ ((k : Int) + 1 ≤ 16) := by omega
                  clear HC H3 Q1 Q2
                  go_wp2
                  go_ret
                  first | exact ⟨rfl, HB6.out⟩ | (refine ⟨?_, HB6.out⟩; simp <;> omega)
                by_cases hi64 : i ≤ 64
                · have hc0 : (c == 0) = true := by rw [HC.out]; rw [if_neg (by omega), if_neg (by omega)]; rfl
                  have hc2 : (c2 == 0) = true := by rw [H3.out.2 (by omega)]; rfl
                  have hi1 : (1 : Int) ≤ (i : Int) := by omega
                  have hi2 : (i : Int) ≤ 64 := by omega
                  obtain rfl : c1 = 22 := by rw [Q1.out, if_pos (by omega)]
                  have hk1 : ¬ (((k + 1 : Nat) : Int) ≤ 16) := by omega
                  have hk2 : ¬ ((k : Int) + 1 ≤ 16) := by omega
                  clear HC H3 Q1 Q2
                  go_wp2
                  go_ret
                  first | exact ⟨rfl, HB6.out⟩ | (refine ⟨?_, HB6.out⟩; simp <;> omega)
                · have hc0 : (c == 0) = false := by rw [HC.out]; rw [if_pos (by omega)]; rfl
                  have hc2 : (c2 == 0) = false := by simpa using fun e => absurd (H3.out.1 e) (by omega)
                  have hi1 : (1 : Int) ≤ (i : Int) := by omega
                  have hi2 : ¬ ((i : Int) ≤ 64) := by omega
                  obtain rfl : c1 = 22 := by rw [Q1.out, if_pos (by omega)]
                  have hk1 : ¬ (((k + 1 : Nat) : Int) ≤ 16) := by omega
                  have hk2 : ¬ ((k : Int) + 1 ≤ 16) := by omega
                  clear HC H3 Q1 Q2
                  go_wp2
                  go_ret
                  first | exact ⟨rfl, HB6.out⟩ | (refine ⟨?_, HB6.out⟩; simp <;> omega)
end Go.Proofs.YtmmfmmjjpbfmeaaDoor
