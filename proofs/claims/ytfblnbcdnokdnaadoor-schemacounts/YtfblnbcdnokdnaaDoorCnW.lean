/-
  SchemaCounts' walk: it answers true, and makes new blocks alone. Its condition: the texts lie in memory, and there are no more than a slice holds.
-/
import Derived.Test.YtfblnbcdnokdnaaDoorCo
import Derived.Test.YtfblnbcdnokdnaaDoorSp
import Derived.Deep.DeepCutAuto
import Derived.Lib.AppendZeros
import Derived.Deep.AppendSrc
namespace Go.Proofs.YtfblnbcdnokdnaaDoor
open Go.RowKit Sch
theorem cat_form (D : List UInt8) : ((⟨#[42, 40, 111]⟩ ++ ⟨D.toArray⟩ : ByteArray) ++ ⟨#[41]⟩) = ⟨(42 :: 40 :: 111 :: (D ++ [41])).toArray⟩ := by
  apply ByteArray.ext
  rw [ByteArray.data_append, ByteArray.data_append]
  simp
theorem grown_low {w w' : World} {row : Option Nat} {B : Nat} (h : w.grownBy w' row) (hB : B ≤ w.heap.size) (hr : ∀ k, row = some k → B ≤ k) : Below B w w' :=
  ⟨h.os, h.tape, h.output, h.size, fun k hk => h.block k (by omega) (fun e => by have := hr k e.symm; omega)⟩
def szS : List ByteArray → Nat
  | [] => 0
  | s :: T => 8 + (s.size + 3) / 4 * 4 + szS T
theorem szT_eq : ∀ T, szT T = 4 + szS T
  | [] => rfl
  | s :: T => by simp only [szT, szS, szT_eq T]; omega
theorem szS_app : ∀ (T : List ByteArray) (s : ByteArray), szS (T ++ [s]) = szS T + (8 + (s.size + 3) / 4 * 4)
  | [], s => by simp [szS]
  | x :: T, s => by simp only [List.cons_append, szS, szS_app T s]; omega
theorem szS_le (b : Nat) : ∀ T : List ByteArray, (∀ s ∈ T, s.size ≤ b) → szS T ≤ T.length * (b + 11)
  | [], _ => by simp [szS]
  | s :: T, h => by
    have h1 := szS_le b T fun x hx => h x (List.mem_cons_of_mem _ hx)
    have h2 := h s (by simp)
    simp only [szS, List.length_cons, Nat.add_mul, Nat.one_mul]
    omega
/-- Is one of them too long? -/
def lg (m : Nat) (T : List ByteArray) : Bool := T.any fun s => decide (m < s.size)
theorem lg_iff (m : Nat) (T : List ByteArray) : lg m T = true ↔ ∃ x ∈ T, m < x.size := by simp [lg]
theorem lg_app (m : Nat) (T : List ByteArray) (s : ByteArray) : lg m (T ++ [s]) = (lg m T || decide (m < s.size)) := by simp [lg]
/-- What the law asks of Encode's answer. -/
def Last (T : List ByteArray) (m : Nat) (s : ByteArray) (e : Int) : Prop :=
  if lg m T = true then e = 4 else if 65536 < 4 + szS T then e = 2 else e = 0 ∧ s.size = 4 + szS T
theorem last_of {T : List ByteArray} {m : Nat} {x : Except Int (List UInt8)} {r : Ending}
    (hr : match x with | .error e => r = .returned (.tuple #[.string ⟨#[]⟩, .int .i64 e]) | .ok b => r = .returned (.tuple #[.string ⟨b.toArray⟩, .int .i64 0]))
    (h : (∃ s ∈ T, m < s.size) ∧ x = .error 4 ∨ (∀ s ∈ T, s.size ≤ m) ∧ (65536 < szT T ∧ x = .error 2 ∨ szT T ≤ 65536 ∧ ∃ b, x = .ok b ∧ b.length = szT T)) :
    ∃ (sx : ByteArray) (ex : Int), r = .returned (.tuple #[.string sx, .int .i64 ex]) ∧ Last T m sx ex := by
  rcases h with ⟨h1, rfl⟩ | ⟨h1, h2⟩
  · exact ⟨_, _, hr, by unfold Last; rw [if_pos ((lg_iff m T).2 h1)]⟩
  · have hno : ¬ lg m T = true := fun h => by
      obtain ⟨s, hs, hlt⟩ := (lg_iff m T).1 h
      have := h1 s hs
      omega
    rw [szT_eq] at h2
    rcases h2 with ⟨h2, rfl⟩ | ⟨h2, b, rfl, hb⟩
    · exact ⟨_, _, hr, by unfold Last; rw [if_neg hno, if_pos h2]⟩
    · exact ⟨_, _, hr, by unfold Last; rw [if_neg hno, if_neg (by omega)]; exact ⟨rfl, by rw [← hb]; show b.toArray.size = _; simp⟩⟩
set_option maxRecDepth 100000 in
set_option maxHeartbeats 2000000 in
theorem counts_in (T : List ByteArray) (ao : Option Addr) (cap : Nat) (L : List ByteArray) (n : Int) (m : Nat) (w : World) (hT : T = L.take 1000) (hm0 : 1 ≤ m) (hm1 : m ≤ 99999) (hmn : (if n < 1 ∨ 99999 < n then 9 else n) = (m : Int)) (hI : StsAt w.heap.size w ao L) (hcap : L.length ≤ cap ∧ cap ≤ 9223372036854775807) (hS : ∀ s ∈ L, s.size ≤ 140737488355328) :
    Calls Tryd.prog 6 #[.slice ao L.length cap, .int .i64 n] w fun e w' => e = .returned (.bool true) ∧ Below w.heap.size w w' := by
  have HI := Lib.hid hI
  have HC := Lib.hid hcap
  have HT := Lib.hid hT
  have HS := Lib.hid (show ∀ s ∈ T, s.size ≤ 140737488355328 from fun s hs => hS s (by rw [hT] at hs; exact List.mem_of_mem_take hs))
  clear hI hcap hT hS
  go_enter Tryd.func6, Tryd.ntmps6
  go_wp2_with fail
  refine (speaks_any _).mono ?_
  rintro r w1 ⟨rfl, hB1⟩
  have HB1 := Lib.hid hB1
  clear hB1
  have hn : (n < 1 ∧ m = 9) ∨ (99999 < n ∧ m = 9) ∨ (1 ≤ n ∧ n ≤ 99999 ∧ n = m) := by
    split at hmn <;> omega
  clear hmn
  obtain ⟨tl, htl⟩ : ∃ tl, T.length = tl := ⟨_, rfl⟩
  have htl1 : tl = min 1000 L.length := by rw [← htl, HT.out, List.length_take]
  have hI2 : StsAt w.heap.size w ao T := fun i hi => by
    have hi' : i < L.length := by omega
    obtain ⟨g, off, e, hg, hc⟩ := HI.out i hi'
    refine ⟨g, off, e, hg, ?_⟩
    rw [hc]
    congr 2
    have e2 := HT.out
    subst e2
    rw [List.getElem_take]
  have htle : tl ≤ 1000 := by omega
  have HI2 := Lib.hid hI2
  have HTL := Lib.hid htl
  have HC2 := Lib.hid (show tl ≤ cap ∧ cap ≤ 9223372036854775807 from ⟨by have := HC.out; omega, HC.out.2⟩)
  clear hI2 htl HI HT
  rcases hn with ⟨hn, hm⟩ | ⟨hn, hm⟩ | ⟨hn, hn', rfl⟩
  · by_cases hL : 1000 < L.length
    · have hc1000 : 1000 ≤ cap := by have := HC.out; omega
      go_wp2_with fail
      rw [show (9 : Int) = (m : Int) from by rw [hm]; rfl]
      clear hm
      rw [show (1000 : Nat) = tl from by omega]
      refine (digits_any m hm0 hm1 _).mono ?_
      rintro r w2 ⟨D, rfl, hD, hB2⟩
      have HD := Lib.hid hD
      have HB2 := Lib.hid (HB1.out.trans (hB2.mono HB1.out.size))
      have hlen := hD.len
      clear hB2 hD
      have hcat := cat_form D
      obtain ⟨F, hF⟩ : ∃ F : ByteArray, F = ⟨(42 :: 40 :: 111 :: (D ++ [41])).toArray⟩ := ⟨_, rfl⟩
      rw [← hF] at hcat
      have hs1 : (9223372036854775807 < 3 + D.length) = False := by simp; omega
      have hs2 : (9223372036854775807 < 3 + D.length + 1) = False := by simp; omega
      have HF := Lib.hid hF
      have HH1 := Lib.hid htl1
      clear hF htl1
      by_cases ht0 : tl = 0
      · have hT0 : T = [] := List.eq_nil_of_length_eq_zero (by rw [HTL.out]; exact ht0)
        clear htle
        subst hT0 ht0
        have hrun : ∀ ty, (Builtin.append_ #[26, 26] ty #[.slice (some ⟨w2.heap.size + 1, 0, none⟩) 0 0, .slice ao 0 cap]).run Tryd.prog ((w2.alloc (.cells #[.int .i64 0] 3)).alloc (.cells #[] 9)) = .ok (.slice (some ⟨w2.heap.size + 1, 0, none⟩) 0 0) ((w2.alloc (.cells #[.int .i64 0] 3)).alloc (.cells #[] 9)) := fun ty => by
          obtain ⟨i3, hi3, hz30, hz31, hz32⟩ := info_parts info9
          have hsrc : Src Tryd.prog i3.size 26 (.slice ao 0 cap) 0 [] ((w2.alloc (.cells #[.int .i64 0] 3)).alloc (.cells #[] 9)) := by
            cases ao with
            | none => exact Src.ofNil _ Tryd.underlying26 cap
            | some a => exact Src.ofSlice _ Tryd.underlying26 a 0 cap [] (by simp) (by simp) (by simp)
          exact run_append_room_src (P := Tryd.prog) _ 26 26 ty 9 i3 Tryd.underlying26 hi3 (w2.heap.size + 1) 0 0 0 (.slice ao 0 cap) 0 [] hsrc (by omega) (by simp) (by simp)
        have HR := Lib.hid hrun
        clear hrun
        go_wp2_with (at_builtin; refine Lib.wpList_append_run _ rfl (.tmp 32) (.tmp 33) 26 26 rfl _ _ rfl rfl _ _ (HR.out _) ?_)
        have hB3 : Below w.heap.size w ((w2.alloc (.cells #[.int .i64 0] 3)).alloc (.cells #[] 9)) := (HB2.out.alloc HB2.out.size _).alloc (by simp; have := HB2.out.size; omega) _
        have hN3 : ((w2.alloc (.cells #[.int .i64 0] 3)).alloc (.cells #[] 9)).cell? ⟨w2.heap.size, 0, none⟩ = some (.int .i64 0) := (World.cell?_alloc_past _ _ _ (by simp)).trans (by rw [cell_of_row _ _ _ _ _ _ (heap_alloc_new w2 _)]; rfl)
        have hw23 : w2.heap.size < ((w2.alloc (.cells #[.int .i64 0] 3)).alloc (.cells #[] 9)).heap.size := by simp; omega
        generalize (w2.alloc (.cells #[.int .i64 0] 3)).alloc (.cells #[] 9) = w3 at *
        have HN3 := Lib.hid hN3
        have hB4 : Below w.heap.size w (w3.alloc (.cells #[.slice (some ⟨w2.heap.size, 0, none⟩) 1 1, .slice (some ⟨w2.heap.size + 1, 0, none⟩) 0 0] 31)) := hB3.alloc hB3.size _
        obtain ⟨x, hx⟩ : ∃ x, encO (42 :: 40 :: 111 :: (D ++ [41])) [(0 : Int)] [] = x := ⟨_, rfl⟩
        have henc := encode_any (42 :: 40 :: 111 :: (D ++ [41])) [(0 : Int)] [] (some ⟨w2.heap.size, 0, none⟩) 1 (some ⟨w2.heap.size + 1, 0, none⟩) 0 (w3.alloc (.cells #[.slice (some ⟨w2.heap.size, 0, none⟩) 1 1, .slice (some ⟨w2.heap.size + 1, 0, none⟩) 0 0] 31))
          (fun j hj => ⟨w2.heap.size, 0, rfl, by simp; omega, by
            obtain rfl : j = 0 := by simp at hj; omega
            exact (World.cell?_alloc_past _ _ _ hw23).trans HN3.out⟩)
          (fun j hj => absurd hj (by simp))
          (by simp) (by simp) (by unfold worth; simp) x hx
        rw [← HF.out] at henc
        have hout := enc_counts HD.out [] (by simp)
        rw [show ((([] : List ByteArray).length : Nat) : Int) = 0 from rfl, hx] at hout
        have HE := Lib.hid henc
        have HOUT := Lib.hid hout
        have HB4 := Lib.hid hB4
        have HX := Lib.hid hx
        clear henc hout hB4 hx hB3 hN3 hs1 hs2 hcat
        refine HE.out.mono ?_
        rintro r w5 ⟨hB5, hr⟩
        have HB5 := Lib.hid (HB4.out.trans (hB5.mono HB4.out.size))
        clear hB5
        obtain ⟨sx, ex, hsx⟩ : ∃ (sx : ByteArray) (ex : Int), r = .returned (.tuple #[.string sx, .int .i64 ex]) ∧ Last [] m sx ex := last_of hr HOUT.out
        obtain ⟨rfl, hlast⟩ := hsx
        have HLA := Lib.hid hlast
        clear hlast hr
        have hla := HLA.out
        unfold Last at hla
        rw [if_neg (by simp [lg]), if_neg (by simp [szS])] at hla
        obtain ⟨rfl, hsz⟩ := hla
        simp only [szS] at hsz
        go_wp2_with fail
        go_loopw [9, 10, 11] (fun z l i wr => z = .int .i64 4 ∧ l = .bool false ∧ i = .int .i64 0 ∧ w5 = wr) (fun _ _ i _ => 0)
        case atStart => exact ⟨rfl, rfl, rfl, rfl⟩
        case round =>
          obtain ⟨rfl, rfl, rfl, rfl⟩ := hrel
          go_wp2
          go_ret
          exact ⟨by first | rfl | simp [hsz], HB5.out⟩
      · obtain ⟨g0, off0, rfl, hg0, _⟩ := HI2.out 0 (by have := HTL.out; omega)
        have hg2 : g0 < w2.heap.size := Nat.lt_of_lt_of_le hg0 HB2.out.size
        have hnews : ∀ j u, (T.map Value.string)[j]? = some u → ((w2.alloc (.cells #[.int .i64 (tl : Int)] 3)).alloc (.cells #[] 9)).cell? ((⟨g0, off0, none⟩ : Addr).add j) = some u := fun j u hu => by
          have hj : j < T.length := by
            rcases Nat.lt_or_ge j T.length with h | h
            · exact h
            · rw [List.getElem?_eq_none (by simpa using h)] at hu; cases hu
          obtain ⟨g', off', e, _, hc⟩ := HI2.out j hj
          simp only [Option.some.injEq, Addr.mk.injEq, and_true] at e
          obtain ⟨rfl, rfl⟩ := e
          rw [List.getElem?_map, List.getElem?_eq_getElem hj] at hu
          simp only [Option.map_some, Option.some.injEq] at hu
          rw [← hu, show (⟨g0, off0, none⟩ : Addr).add j = ⟨g0, off0 + j, none⟩ from by unfold Addr.add; split <;> simp_all]
          rw [World.cell?_alloc_past _ _ _ (by simp; omega), World.cell?_alloc_past _ _ _ hg2]
          exact (World.cell?_of_block (a := ⟨g0, off0 + j, none⟩) (HB2.out.block g0 hg0)).trans hc
        have hown0 : ((w2.alloc (.cells #[.int .i64 (tl : Int)] 3)).alloc (.cells #[] 9)).ownsRow (w2.heap.size + 1) 9 1 (.slice (some ⟨w2.heap.size + 1, 0, none⟩) 0 0) 0 [] :=
          ⟨rfl, .inr ⟨w2.heap.size + 1, 0, #[], rfl, Nat.le_refl _, by have := heap_alloc_new (w2.alloc (.cells #[.int .i64 (tl : Int)] 3)) (.cells #[] 9); simpa using this, Nat.le_refl _, by decide, rfl, rfl⟩⟩
        have HNW := Lib.hid hnews
        have HO0 := Lib.hid hown0
        clear hnews hown0
        obtain ⟨i3, hi3, hz30, hz31, hz32⟩ := info_parts info9
        go_wp2_with (at_builtin; refine wpList_append_lies _ rfl (.tmp 32) (.tmp 33) 26 rfl (w2.heap.size + 1) 9 i3 _ 1 16 Tryd.underlying26 hi3 hz30 hz31 hz32 rfl (by omega) (.slice (some ⟨w2.heap.size + 1, 0, none⟩) 0 0) 0 [] rfl HO0.out ⟨g0, off0, none⟩ tl cap (T.map Value.string) (by rfl) (by rw [List.length_map, HTL.out, Nat.mul_one]) HNW.out (by simp [Value.oneCell']) (by omega) (by unfold maxLen; omega) (by omega) (by simp) (w2.heap.size + 2) (by simp) ?_; intro g2 cap2 w3 hown1 hgrow hat hglt; have HO1 := Lib.hid hown1; have HG1 := Lib.hid hgrow; clear hown1 hgrow hat)
        have hB3 : Below w.heap.size w w3 := (((HB2.out.alloc HB2.out.size _).alloc (by simp; have := HB2.out.size; omega) _)).trans (grown_low HG1.out (by simp; have := HB2.out.size; omega) (fun k e => by simp [Value.ownBlock] at e; have := HB2.out.size; omega))
        have hN3 : w3.cell? ⟨w2.heap.size, 0, none⟩ = some (.int .i64 (tl : Int)) := (HG1.out.cell_far ⟨w2.heap.size, 0, none⟩ (by simp; omega) (by simp [Value.ownBlock])).trans ((World.cell?_alloc_past _ _ _ (by simp)).trans (by rw [cell_of_row _ _ _ _ _ _ (heap_alloc_new w2 _)]; rfl))
        have hw23 : w2.heap.size < w3.heap.size := by have := (grown_low (B := 0) HG1.out (Nat.zero_le _) (fun _ _ => Nat.zero_le _)).size; simp at this; omega
        have hT3 : ∀ j (hj : j < T.length), w3.cell? ⟨g2, j, none⟩ = some (.string T[j]) := fun j hj => cellAt0 HO1.out j _ (by simp [List.getElem?_eq_getElem hj])
        have hcap2 : tl ≤ cap2 ∧ cap2 ≤ 9223372036854775807 := by
          rcases HO1.out.2 with ⟨e, _⟩ | ⟨g', c', cur, e, _, _, h1, h2, _⟩
          · cases e
          · injection e with _ _ e; subst e; exact ⟨by omega, h2⟩
        have HN3 := Lib.hid hN3
        have HT3 := Lib.hid hT3
        have hB4 : Below w.heap.size w (w3.alloc (.cells #[.slice (some ⟨w2.heap.size, 0, none⟩) 1 1, .slice (some ⟨g2, 0, none⟩) tl cap2] 31)) := hB3.alloc hB3.size _
        obtain ⟨x, hx⟩ : ∃ x, encO (42 :: 40 :: 111 :: (D ++ [41])) [(tl : Int)] T = x := ⟨_, rfl⟩
        have henc := encode_any (42 :: 40 :: 111 :: (D ++ [41])) [(tl : Int)] T (some ⟨w2.heap.size, 0, none⟩) 1 (some ⟨g2, 0, none⟩) cap2 (w3.alloc (.cells #[.slice (some ⟨w2.heap.size, 0, none⟩) 1 1, .slice (some ⟨g2, 0, none⟩) tl cap2] 31))
          (fun j hj => ⟨w2.heap.size, 0, rfl, by simp; omega, by
            obtain rfl : j = 0 := by simp at hj; omega
            exact (World.cell?_alloc_past _ _ _ hw23).trans HN3.out⟩)
          (fun j hj => ⟨g2, 0, rfl, by simp; omega, by rw [Nat.zero_add]; exact (World.cell?_alloc_past _ _ _ hglt).trans (HT3.out j hj)⟩)
          (by simp) (by rw [HTL.out]; exact hcap2) (by unfold worth; rw [HTL.out]; simp; omega) x hx
        rw [← HF.out, HTL.out] at henc
        have hout := enc_counts HD.out T (by rw [HTL.out]; exact htle)
        rw [HTL.out, hx] at hout
        have HE := Lib.hid henc
        have HOUT := Lib.hid hout
        have HB4 := Lib.hid hB4
        have HX := Lib.hid hx
        clear henc hout hB4 hx hB3 hN3 hT3 hcap2 hs1 hs2 hcat
        refine HE.out.mono ?_
        rintro r w5 ⟨hB5, hr⟩
        have HB5 := Lib.hid (HB4.out.trans (hB5.mono HB4.out.size))
        clear hB5
        obtain ⟨sx, ex, hsx⟩ : ∃ (sx : ByteArray) (ex : Int), r = .returned (.tuple #[.string sx, .int .i64 ex]) ∧ Last T m sx ex := last_of hr HOUT.out
        obtain ⟨rfl, hlast⟩ := hsx
        have HLA := Lib.hid hlast
        clear hlast hr
        go_wp2_with fail
        go_loopw [9, 10, 11] (fun z l i wr => ∃ k : Nat, k ≤ tl ∧ z = .int .i64 ((4 + szS (T.take k) : Nat) : Int) ∧ l = .bool (lg m (T.take k)) ∧ i = .int .i64 k ∧ w5 = wr) (fun _ _ i _ => tl - (intOf i).toNat)
        case atStart => exact ⟨0, Nat.zero_le _, rfl, rfl, rfl, rfl⟩
        case round =>
          obtain ⟨k, hk, rfl, rfl, rfl, rfl⟩ := hrel
          by_cases hlt : k < tl
          · have hkT : k < T.length := by have := HTL.out; omega
            obtain ⟨g', off', e', hg', hc'⟩ := HI2.out k hkT
            simp only [Option.some.injEq, Addr.mk.injEq, and_true] at e'
            obtain ⟨rfl, rfl⟩ := e'
            have hcell := (World.cell?_of_block (a := ⟨g0, off0 + k, none⟩) (HB5.out.block g0 hg0)).trans hc'
            have hbnd := HS.out T[k] (List.getElem_mem hkT)
            have htk : T.take (k + 1) = T.take k ++ [T[k]] := List.take_succ_eq_append_getElem hkT
            have hz := szS_app (T.take k) T[k]
            have hlg := lg_app m (T.take k) T[k]
            rw [← htk] at hz hlg
            have hle := szS_le 140737488355328 (T.take k) (fun s hs => HS.out s (List.mem_of_mem_take hs))
            have hle2 : szS (T.take k) ≤ 1000 * 140737488355339 := Nat.le_trans hle (Nat.mul_le_mul (by rw [List.length_take]; omega) (Nat.le_refl _))
            generalize T[k] = s at *
            generalize szS (T.take k) = a at *
            generalize lg m (T.take k) = b at *
            have HZ := Lib.hid hz
            have HLG := Lib.hid hlg
            clear hz hlg hle htk hc' hg'
            cases b
            · go_wp2
              exact ⟨⟨k + 1, by omega, by rw [HZ.out]; congr 1; omega, by rw [HLG.out]; rfl, by go_num, trivial⟩, by simp [intOf]; omega⟩
            · go_wp2
              exact ⟨⟨k + 1, by omega, by rw [HZ.out]; congr 1; omega, by rw [HLG.out]; rfl, by go_num, trivial⟩, by simp [intOf]; omega⟩
          · obtain rfl : k = tl := by omega
            have htk : T.take k = T := by rw [← HTL.out]; exact List.take_length
            have hle := szS_le 140737488355328 T (fun s hs => HS.out s hs)
            have hle2 : szS T ≤ 1000 * 140737488355339 := Nat.le_trans hle (Nat.mul_le_mul (by rw [HTL.out]; omega) (Nat.le_refl _))
            have hla := HLA.out
            unfold Last at hla
            rw [htk]
            obtain ⟨Z, hZ⟩ : ∃ Z, 4 + szS T = Z := ⟨_, rfl⟩
            obtain ⟨b, hb⟩ : ∃ b, lg m T = b := ⟨_, rfl⟩
            have hZ2 : Z ≤ 140737488355339004 := by omega
            rw [hZ, hb] at hla
            rw [hZ, hb]
            clear hle hle2 hZ hb htk HLA
            cases b
            · rw [if_neg (by decide)] at hla
              by_cases hbig : 65536 < Z
              · rw [if_pos hbig] at hla
                subst hla
                go_wp2
                go_ret
                exact ⟨rfl, HB5.out⟩
              · rw [if_neg hbig] at hla
                obtain ⟨rfl, hsz⟩ := hla
                go_wp2
                go_ret
                exact ⟨by first | rfl | simp [hsz], HB5.out⟩
            · rw [if_pos rfl] at hla
              subst hla
              go_wp2
              go_ret
              exact ⟨rfl, HB5.out⟩
    · go_wp2_with fail
      rw [show (9 : Int) = (m : Int) from by rw [hm]; rfl]
      clear hm
      rw [show L.length = tl from by omega]
      refine (digits_any m hm0 hm1 _).mono ?_
      rintro r w2 ⟨D, rfl, hD, hB2⟩
      have HD := Lib.hid hD
      have HB2 := Lib.hid (HB1.out.trans (hB2.mono HB1.out.size))
      have hlen := hD.len
      clear hB2 hD
      have hcat := cat_form D
      obtain ⟨F, hF⟩ : ∃ F : ByteArray, F = ⟨(42 :: 40 :: 111 :: (D ++ [41])).toArray⟩ := ⟨_, rfl⟩
      rw [← hF] at hcat
      have hs1 : (9223372036854775807 < 3 + D.length) = False := by simp; omega
      have hs2 : (9223372036854775807 < 3 + D.length + 1) = False := by simp; omega
      have HF := Lib.hid hF
      have HH1 := Lib.hid htl1
      clear hF htl1
      by_cases ht0 : tl = 0
      · have hT0 : T = [] := List.eq_nil_of_length_eq_zero (by rw [HTL.out]; exact ht0)
        clear htle
        subst hT0 ht0
        have hrun : ∀ ty, (Builtin.append_ #[26, 26] ty #[.slice (some ⟨w2.heap.size + 1, 0, none⟩) 0 0, .slice ao 0 cap]).run Tryd.prog ((w2.alloc (.cells #[.int .i64 0] 3)).alloc (.cells #[] 9)) = .ok (.slice (some ⟨w2.heap.size + 1, 0, none⟩) 0 0) ((w2.alloc (.cells #[.int .i64 0] 3)).alloc (.cells #[] 9)) := fun ty => by
          obtain ⟨i3, hi3, hz30, hz31, hz32⟩ := info_parts info9
          have hsrc : Src Tryd.prog i3.size 26 (.slice ao 0 cap) 0 [] ((w2.alloc (.cells #[.int .i64 0] 3)).alloc (.cells #[] 9)) := by
            cases ao with
            | none => exact Src.ofNil _ Tryd.underlying26 cap
            | some a => exact Src.ofSlice _ Tryd.underlying26 a 0 cap [] (by simp) (by simp) (by simp)
          exact run_append_room_src (P := Tryd.prog) _ 26 26 ty 9 i3 Tryd.underlying26 hi3 (w2.heap.size + 1) 0 0 0 (.slice ao 0 cap) 0 [] hsrc (by omega) (by simp) (by simp)
        have HR := Lib.hid hrun
        clear hrun
        go_wp2_with (at_builtin; refine Lib.wpList_append_run _ rfl (.tmp 32) (.tmp 33) 26 26 rfl _ _ rfl rfl _ _ (HR.out _) ?_)
        have hB3 : Below w.heap.size w ((w2.alloc (.cells #[.int .i64 0] 3)).alloc (.cells #[] 9)) := (HB2.out.alloc HB2.out.size _).alloc (by simp; have := HB2.out.size; omega) _
        have hN3 : ((w2.alloc (.cells #[.int .i64 0] 3)).alloc (.cells #[] 9)).cell? ⟨w2.heap.size, 0, none⟩ = some (.int .i64 0) := (World.cell?_alloc_past _ _ _ (by simp)).trans (by rw [cell_of_row _ _ _ _ _ _ (heap_alloc_new w2 _)]; rfl)
        have hw23 : w2.heap.size < ((w2.alloc (.cells #[.int .i64 0] 3)).alloc (.cells #[] 9)).heap.size := by simp; omega
        generalize (w2.alloc (.cells #[.int .i64 0] 3)).alloc (.cells #[] 9) = w3 at *
        have HN3 := Lib.hid hN3
        have hB4 : Below w.heap.size w (w3.alloc (.cells #[.slice (some ⟨w2.heap.size, 0, none⟩) 1 1, .slice (some ⟨w2.heap.size + 1, 0, none⟩) 0 0] 31)) := hB3.alloc hB3.size _
        obtain ⟨x, hx⟩ : ∃ x, encO (42 :: 40 :: 111 :: (D ++ [41])) [(0 : Int)] [] = x := ⟨_, rfl⟩
        have henc := encode_any (42 :: 40 :: 111 :: (D ++ [41])) [(0 : Int)] [] (some ⟨w2.heap.size, 0, none⟩) 1 (some ⟨w2.heap.size + 1, 0, none⟩) 0 (w3.alloc (.cells #[.slice (some ⟨w2.heap.size, 0, none⟩) 1 1, .slice (some ⟨w2.heap.size + 1, 0, none⟩) 0 0] 31))
          (fun j hj => ⟨w2.heap.size, 0, rfl, by simp; omega, by
            obtain rfl : j = 0 := by simp at hj; omega
            exact (World.cell?_alloc_past _ _ _ hw23).trans HN3.out⟩)
          (fun j hj => absurd hj (by simp))
          (by simp) (by simp) (by unfold worth; simp) x hx
        rw [← HF.out] at henc
        have hout := enc_counts HD.out [] (by simp)
        rw [show ((([] : List ByteArray).length : Nat) : Int) = 0 from rfl, hx] at hout
        have HE := Lib.hid henc
        have HOUT := Lib.hid hout
        have HB4 := Lib.hid hB4
        have HX := Lib.hid hx
        clear henc hout hB4 hx hB3 hN3 hs1 hs2 hcat
        refine HE.out.mono ?_
        rintro r w5 ⟨hB5, hr⟩
        have HB5 := Lib.hid (HB4.out.trans (hB5.mono HB4.out.size))
        clear hB5
        obtain ⟨sx, ex, hsx⟩ : ∃ (sx : ByteArray) (ex : Int), r = .returned (.tuple #[.string sx, .int .i64 ex]) ∧ Last [] m sx ex := last_of hr HOUT.out
        obtain ⟨rfl, hlast⟩ := hsx
        have HLA := Lib.hid hlast
        clear hlast hr
        have hla := HLA.out
        unfold Last at hla
        rw [if_neg (by simp [lg]), if_neg (by simp [szS])] at hla
        obtain ⟨rfl, hsz⟩ := hla
        simp only [szS] at hsz
        go_wp2_with fail
        go_loopw [9, 10, 11] (fun z l i wr => z = .int .i64 4 ∧ l = .bool false ∧ i = .int .i64 0 ∧ w5 = wr) (fun _ _ i _ => 0)
        case atStart => exact ⟨rfl, rfl, rfl, rfl⟩
        case round =>
          obtain ⟨rfl, rfl, rfl, rfl⟩ := hrel
          go_wp2
          go_ret
          exact ⟨by first | rfl | simp [hsz], HB5.out⟩
      · obtain ⟨g0, off0, rfl, hg0, _⟩ := HI2.out 0 (by have := HTL.out; omega)
        have hg2 : g0 < w2.heap.size := Nat.lt_of_lt_of_le hg0 HB2.out.size
        have hnews : ∀ j u, (T.map Value.string)[j]? = some u → ((w2.alloc (.cells #[.int .i64 (tl : Int)] 3)).alloc (.cells #[] 9)).cell? ((⟨g0, off0, none⟩ : Addr).add j) = some u := fun j u hu => by
          have hj : j < T.length := by
            rcases Nat.lt_or_ge j T.length with h | h
            · exact h
            · rw [List.getElem?_eq_none (by simpa using h)] at hu; cases hu
          obtain ⟨g', off', e, _, hc⟩ := HI2.out j hj
          simp only [Option.some.injEq, Addr.mk.injEq, and_true] at e
          obtain ⟨rfl, rfl⟩ := e
          rw [List.getElem?_map, List.getElem?_eq_getElem hj] at hu
          simp only [Option.map_some, Option.some.injEq] at hu
          rw [← hu, show (⟨g0, off0, none⟩ : Addr).add j = ⟨g0, off0 + j, none⟩ from by unfold Addr.add; split <;> simp_all]
          rw [World.cell?_alloc_past _ _ _ (by simp; omega), World.cell?_alloc_past _ _ _ hg2]
          exact (World.cell?_of_block (a := ⟨g0, off0 + j, none⟩) (HB2.out.block g0 hg0)).trans hc
        have hown0 : ((w2.alloc (.cells #[.int .i64 (tl : Int)] 3)).alloc (.cells #[] 9)).ownsRow (w2.heap.size + 1) 9 1 (.slice (some ⟨w2.heap.size + 1, 0, none⟩) 0 0) 0 [] :=
          ⟨rfl, .inr ⟨w2.heap.size + 1, 0, #[], rfl, Nat.le_refl _, by have := heap_alloc_new (w2.alloc (.cells #[.int .i64 (tl : Int)] 3)) (.cells #[] 9); simpa using this, Nat.le_refl _, by decide, rfl, rfl⟩⟩
        have HNW := Lib.hid hnews
        have HO0 := Lib.hid hown0
        clear hnews hown0
        obtain ⟨i3, hi3, hz30, hz31, hz32⟩ := info_parts info9
        go_wp2_with (at_builtin; refine wpList_append_lies _ rfl (.tmp 32) (.tmp 33) 26 rfl (w2.heap.size + 1) 9 i3 _ 1 16 Tryd.underlying26 hi3 hz30 hz31 hz32 rfl (by omega) (.slice (some ⟨w2.heap.size + 1, 0, none⟩) 0 0) 0 [] rfl HO0.out ⟨g0, off0, none⟩ tl cap (T.map Value.string) (by rfl) (by rw [List.length_map, HTL.out, Nat.mul_one]) HNW.out (by simp [Value.oneCell']) (by omega) (by unfold maxLen; omega) (by omega) (by simp) (w2.heap.size + 2) (by simp) ?_; intro g2 cap2 w3 hown1 hgrow hat hglt; have HO1 := Lib.hid hown1; have HG1 := Lib.hid hgrow; clear hown1 hgrow hat)
        have hB3 : Below w.heap.size w w3 := (((HB2.out.alloc HB2.out.size _).alloc (by simp; have := HB2.out.size; omega) _)).trans (grown_low HG1.out (by simp; have := HB2.out.size; omega) (fun k e => by simp [Value.ownBlock] at e; have := HB2.out.size; omega))
        have hN3 : w3.cell? ⟨w2.heap.size, 0, none⟩ = some (.int .i64 (tl : Int)) := (HG1.out.cell_far ⟨w2.heap.size, 0, none⟩ (by simp; omega) (by simp [Value.ownBlock])).trans ((World.cell?_alloc_past _ _ _ (by simp)).trans (by rw [cell_of_row _ _ _ _ _ _ (heap_alloc_new w2 _)]; rfl))
        have hw23 : w2.heap.size < w3.heap.size := by have := (grown_low (B := 0) HG1.out (Nat.zero_le _) (fun _ _ => Nat.zero_le _)).size; simp at this; omega
        have hT3 : ∀ j (hj : j < T.length), w3.cell? ⟨g2, j, none⟩ = some (.string T[j]) := fun j hj => cellAt0 HO1.out j _ (by simp [List.getElem?_eq_getElem hj])
        have hcap2 : tl ≤ cap2 ∧ cap2 ≤ 9223372036854775807 := by
          rcases HO1.out.2 with ⟨e, _⟩ | ⟨g', c', cur, e, _, _, h1, h2, _⟩
          · cases e
          · injection e with _ _ e; subst e; exact ⟨by omega, h2⟩
        have HN3 := Lib.hid hN3
        have HT3 := Lib.hid hT3
        have hB4 : Below w.heap.size w (w3.alloc (.cells #[.slice (some ⟨w2.heap.size, 0, none⟩) 1 1, .slice (some ⟨g2, 0, none⟩) tl cap2] 31)) := hB3.alloc hB3.size _
        obtain ⟨x, hx⟩ : ∃ x, encO (42 :: 40 :: 111 :: (D ++ [41])) [(tl : Int)] T = x := ⟨_, rfl⟩
        have henc := encode_any (42 :: 40 :: 111 :: (D ++ [41])) [(tl : Int)] T (some ⟨w2.heap.size, 0, none⟩) 1 (some ⟨g2, 0, none⟩) cap2 (w3.alloc (.cells #[.slice (some ⟨w2.heap.size, 0, none⟩) 1 1, .slice (some ⟨g2, 0, none⟩) tl cap2] 31))
          (fun j hj => ⟨w2.heap.size, 0, rfl, by simp; omega, by
            obtain rfl : j = 0 := by simp at hj; omega
            exact (World.cell?_alloc_past _ _ _ hw23).trans HN3.out⟩)
          (fun j hj => ⟨g2, 0, rfl, by simp; omega, by rw [Nat.zero_add]; exact (World.cell?_alloc_past _ _ _ hglt).trans (HT3.out j hj)⟩)
          (by simp) (by rw [HTL.out]; exact hcap2) (by unfold worth; rw [HTL.out]; simp; omega) x hx
        rw [← HF.out, HTL.out] at henc
        have hout := enc_counts HD.out T (by rw [HTL.out]; exact htle)
        rw [HTL.out, hx] at hout
        have HE := Lib.hid henc
        have HOUT := Lib.hid hout
        have HB4 := Lib.hid hB4
        have HX := Lib.hid hx
        clear henc hout hB4 hx hB3 hN3 hT3 hcap2 hs1 hs2 hcat
        refine HE.out.mono ?_
        rintro r w5 ⟨hB5, hr⟩
        have HB5 := Lib.hid (HB4.out.trans (hB5.mono HB4.out.size))
        clear hB5
        obtain ⟨sx, ex, hsx⟩ : ∃ (sx : ByteArray) (ex : Int), r = .returned (.tuple #[.string sx, .int .i64 ex]) ∧ Last T m sx ex := last_of hr HOUT.out
        obtain ⟨rfl, hlast⟩ := hsx
        have HLA := Lib.hid hlast
        clear hlast hr
        go_wp2_with fail
        go_loopw [9, 10, 11] (fun z l i wr => ∃ k : Nat, k ≤ tl ∧ z = .int .i64 ((4 + szS (T.take k) : Nat) : Int) ∧ l = .bool (lg m (T.take k)) ∧ i = .int .i64 k ∧ w5 = wr) (fun _ _ i _ => tl - (intOf i).toNat)
        case atStart => exact ⟨0, Nat.zero_le _, rfl, rfl, rfl, rfl⟩
        case round =>
          obtain ⟨k, hk, rfl, rfl, rfl, rfl⟩ := hrel
          by_cases hlt : k < tl
          · have hkT : k < T.length := by have := HTL.out; omega
            obtain ⟨g', off', e', hg', hc'⟩ := HI2.out k hkT
            simp only [Option.some.injEq, Addr.mk.injEq, and_true] at e'
            obtain ⟨rfl, rfl⟩ := e'
            have hcell := (World.cell?_of_block (a := ⟨g0, off0 + k, none⟩) (HB5.out.block g0 hg0)).trans hc'
            have hbnd := HS.out T[k] (List.getElem_mem hkT)
            have htk : T.take (k + 1) = T.take k ++ [T[k]] := List.take_succ_eq_append_getElem hkT
            have hz := szS_app (T.take k) T[k]
            have hlg := lg_app m (T.take k) T[k]
            rw [← htk] at hz hlg
            have hle := szS_le 140737488355328 (T.take k) (fun s hs => HS.out s (List.mem_of_mem_take hs))
            have hle2 : szS (T.take k) ≤ 1000 * 140737488355339 := Nat.le_trans hle (Nat.mul_le_mul (by rw [List.length_take]; omega) (Nat.le_refl _))
            generalize T[k] = s at *
            generalize szS (T.take k) = a at *
            generalize lg m (T.take k) = b at *
            have HZ := Lib.hid hz
            have HLG := Lib.hid hlg
            clear hz hlg hle htk hc' hg'
            cases b
            · go_wp2
              exact ⟨⟨k + 1, by omega, by rw [HZ.out]; congr 1; omega, by rw [HLG.out]; rfl, by go_num, trivial⟩, by simp [intOf]; omega⟩
            · go_wp2
              exact ⟨⟨k + 1, by omega, by rw [HZ.out]; congr 1; omega, by rw [HLG.out]; rfl, by go_num, trivial⟩, by simp [intOf]; omega⟩
          · obtain rfl : k = tl := by omega
            have htk : T.take k = T := by rw [← HTL.out]; exact List.take_length
            have hle := szS_le 140737488355328 T (fun s hs => HS.out s hs)
            have hle2 : szS T ≤ 1000 * 140737488355339 := Nat.le_trans hle (Nat.mul_le_mul (by rw [HTL.out]; omega) (Nat.le_refl _))
            have hla := HLA.out
            unfold Last at hla
            rw [htk]
            obtain ⟨Z, hZ⟩ : ∃ Z, 4 + szS T = Z := ⟨_, rfl⟩
            obtain ⟨b, hb⟩ : ∃ b, lg m T = b := ⟨_, rfl⟩
            have hZ2 : Z ≤ 140737488355339004 := by omega
            rw [hZ, hb] at hla
            rw [hZ, hb]
            clear hle hle2 hZ hb htk HLA
            cases b
            · rw [if_neg (by decide)] at hla
              by_cases hbig : 65536 < Z
              · rw [if_pos hbig] at hla
                subst hla
                go_wp2
                go_ret
                exact ⟨rfl, HB5.out⟩
              · rw [if_neg hbig] at hla
                obtain ⟨rfl, hsz⟩ := hla
                go_wp2
                go_ret
                exact ⟨by first | rfl | simp [hsz], HB5.out⟩
            · rw [if_pos rfl] at hla
              subst hla
              go_wp2
              go_ret
              exact ⟨rfl, HB5.out⟩
  · by_cases hL : 1000 < L.length
    · have hc1000 : 1000 ≤ cap := by have := HC.out; omega
      go_wp2_with fail
      rw [show (9 : Int) = (m : Int) from by rw [hm]; rfl]
      clear hm
      rw [show (1000 : Nat) = tl from by omega]
      refine (digits_any m hm0 hm1 _).mono ?_
      rintro r w2 ⟨D, rfl, hD, hB2⟩
      have HD := Lib.hid hD
      have HB2 := Lib.hid (HB1.out.trans (hB2.mono HB1.out.size))
      have hlen := hD.len
      clear hB2 hD
      have hcat := cat_form D
      obtain ⟨F, hF⟩ : ∃ F : ByteArray, F = ⟨(42 :: 40 :: 111 :: (D ++ [41])).toArray⟩ := ⟨_, rfl⟩
      rw [← hF] at hcat
      have hs1 : (9223372036854775807 < 3 + D.length) = False := by simp; omega
      have hs2 : (9223372036854775807 < 3 + D.length + 1) = False := by simp; omega
      have HF := Lib.hid hF
      have HH1 := Lib.hid htl1
      clear hF htl1
      by_cases ht0 : tl = 0
      · have hT0 : T = [] := List.eq_nil_of_length_eq_zero (by rw [HTL.out]; exact ht0)
        clear htle
        subst hT0 ht0
        have hrun : ∀ ty, (Builtin.append_ #[26, 26] ty #[.slice (some ⟨w2.heap.size + 1, 0, none⟩) 0 0, .slice ao 0 cap]).run Tryd.prog ((w2.alloc (.cells #[.int .i64 0] 3)).alloc (.cells #[] 9)) = .ok (.slice (some ⟨w2.heap.size + 1, 0, none⟩) 0 0) ((w2.alloc (.cells #[.int .i64 0] 3)).alloc (.cells #[] 9)) := fun ty => by
          obtain ⟨i3, hi3, hz30, hz31, hz32⟩ := info_parts info9
          have hsrc : Src Tryd.prog i3.size 26 (.slice ao 0 cap) 0 [] ((w2.alloc (.cells #[.int .i64 0] 3)).alloc (.cells #[] 9)) := by
            cases ao with
            | none => exact Src.ofNil _ Tryd.underlying26 cap
            | some a => exact Src.ofSlice _ Tryd.underlying26 a 0 cap [] (by simp) (by simp) (by simp)
          exact run_append_room_src (P := Tryd.prog) _ 26 26 ty 9 i3 Tryd.underlying26 hi3 (w2.heap.size + 1) 0 0 0 (.slice ao 0 cap) 0 [] hsrc (by omega) (by simp) (by simp)
        have HR := Lib.hid hrun
        clear hrun
        go_wp2_with (at_builtin; refine Lib.wpList_append_run _ rfl (.tmp 32) (.tmp 33) 26 26 rfl _ _ rfl rfl _ _ (HR.out _) ?_)
        have hB3 : Below w.heap.size w ((w2.alloc (.cells #[.int .i64 0] 3)).alloc (.cells #[] 9)) := (HB2.out.alloc HB2.out.size _).alloc (by simp; have := HB2.out.size; omega) _
        have hN3 : ((w2.alloc (.cells #[.int .i64 0] 3)).alloc (.cells #[] 9)).cell? ⟨w2.heap.size, 0, none⟩ = some (.int .i64 0) := (World.cell?_alloc_past _ _ _ (by simp)).trans (by rw [cell_of_row _ _ _ _ _ _ (heap_alloc_new w2 _)]; rfl)
        have hw23 : w2.heap.size < ((w2.alloc (.cells #[.int .i64 0] 3)).alloc (.cells #[] 9)).heap.size := by simp; omega
        generalize (w2.alloc (.cells #[.int .i64 0] 3)).alloc (.cells #[] 9) = w3 at *
        have HN3 := Lib.hid hN3
        have hB4 : Below w.heap.size w (w3.alloc (.cells #[.slice (some ⟨w2.heap.size, 0, none⟩) 1 1, .slice (some ⟨w2.heap.size + 1, 0, none⟩) 0 0] 31)) := hB3.alloc hB3.size _
        obtain ⟨x, hx⟩ : ∃ x, encO (42 :: 40 :: 111 :: (D ++ [41])) [(0 : Int)] [] = x := ⟨_, rfl⟩
        have henc := encode_any (42 :: 40 :: 111 :: (D ++ [41])) [(0 : Int)] [] (some ⟨w2.heap.size, 0, none⟩) 1 (some ⟨w2.heap.size + 1, 0, none⟩) 0 (w3.alloc (.cells #[.slice (some ⟨w2.heap.size, 0, none⟩) 1 1, .slice (some ⟨w2.heap.size + 1, 0, none⟩) 0 0] 31))
          (fun j hj => ⟨w2.heap.size, 0, rfl, by simp; omega, by
            obtain rfl : j = 0 := by simp at hj; omega
            exact (World.cell?_alloc_past _ _ _ hw23).trans HN3.out⟩)
          (fun j hj => absurd hj (by simp))
          (by simp) (by simp) (by unfold worth; simp) x hx
        rw [← HF.out] at henc
        have hout := enc_counts HD.out [] (by simp)
        rw [show ((([] : List ByteArray).length : Nat) : Int) = 0 from rfl, hx] at hout
        have HE := Lib.hid henc
        have HOUT := Lib.hid hout
        have HB4 := Lib.hid hB4
        have HX := Lib.hid hx
        clear henc hout hB4 hx hB3 hN3 hs1 hs2 hcat
        refine HE.out.mono ?_
        rintro r w5 ⟨hB5, hr⟩
        have HB5 := Lib.hid (HB4.out.trans (hB5.mono HB4.out.size))
        clear hB5
        obtain ⟨sx, ex, hsx⟩ : ∃ (sx : ByteArray) (ex : Int), r = .returned (.tuple #[.string sx, .int .i64 ex]) ∧ Last [] m sx ex := last_of hr HOUT.out
        obtain ⟨rfl, hlast⟩ := hsx
        have HLA := Lib.hid hlast
        clear hlast hr
        have hla := HLA.out
        unfold Last at hla
        rw [if_neg (by simp [lg]), if_neg (by simp [szS])] at hla
        obtain ⟨rfl, hsz⟩ := hla
        simp only [szS] at hsz
        go_wp2_with fail
        go_loopw [9, 10, 11] (fun z l i wr => z = .int .i64 4 ∧ l = .bool false ∧ i = .int .i64 0 ∧ w5 = wr) (fun _ _ i _ => 0)
        case atStart => exact ⟨rfl, rfl, rfl, rfl⟩
        case round =>
          obtain ⟨rfl, rfl, rfl, rfl⟩ := hrel
          go_wp2
          go_ret
          exact ⟨by first | rfl | simp [hsz], HB5.out⟩
      · obtain ⟨g0, off0, rfl, hg0, _⟩ := HI2.out 0 (by have := HTL.out; omega)
        have hg2 : g0 < w2.heap.size := Nat.lt_of_lt_of_le hg0 HB2.out.size
        have hnews : ∀ j u, (T.map Value.string)[j]? = some u → ((w2.alloc (.cells #[.int .i64 (tl : Int)] 3)).alloc (.cells #[] 9)).cell? ((⟨g0, off0, none⟩ : Addr).add j) = some u := fun j u hu => by
          have hj : j < T.length := by
            rcases Nat.lt_or_ge j T.length with h | h
            · exact h
            · rw [List.getElem?_eq_none (by simpa using h)] at hu; cases hu
          obtain ⟨g', off', e, _, hc⟩ := HI2.out j hj
          simp only [Option.some.injEq, Addr.mk.injEq, and_true] at e
          obtain ⟨rfl, rfl⟩ := e
          rw [List.getElem?_map, List.getElem?_eq_getElem hj] at hu
          simp only [Option.map_some, Option.some.injEq] at hu
          rw [← hu, show (⟨g0, off0, none⟩ : Addr).add j = ⟨g0, off0 + j, none⟩ from by unfold Addr.add; split <;> simp_all]
          rw [World.cell?_alloc_past _ _ _ (by simp; omega), World.cell?_alloc_past _ _ _ hg2]
          exact (World.cell?_of_block (a := ⟨g0, off0 + j, none⟩) (HB2.out.block g0 hg0)).trans hc
        have hown0 : ((w2.alloc (.cells #[.int .i64 (tl : Int)] 3)).alloc (.cells #[] 9)).ownsRow (w2.heap.size + 1) 9 1 (.slice (some ⟨w2.heap.size + 1, 0, none⟩) 0 0) 0 [] :=
          ⟨rfl, .inr ⟨w2.heap.size + 1, 0, #[], rfl, Nat.le_refl _, by have := heap_alloc_new (w2.alloc (.cells #[.int .i64 (tl : Int)] 3)) (.cells #[] 9); simpa using this, Nat.le_refl _, by decide, rfl, rfl⟩⟩
        have HNW := Lib.hid hnews
        have HO0 := Lib.hid hown0
        clear hnews hown0
        obtain ⟨i3, hi3, hz30, hz31, hz32⟩ := info_parts info9
        go_wp2_with (at_builtin; refine wpList_append_lies _ rfl (.tmp 32) (.tmp 33) 26 rfl (w2.heap.size + 1) 9 i3 _ 1 16 Tryd.underlying26 hi3 hz30 hz31 hz32 rfl (by omega) (.slice (some ⟨w2.heap.size + 1, 0, none⟩) 0 0) 0 [] rfl HO0.out ⟨g0, off0, none⟩ tl cap (T.map Value.string) (by rfl) (by rw [List.length_map, HTL.out, Nat.mul_one]) HNW.out (by simp [Value.oneCell']) (by omega) (by unfold maxLen; omega) (by omega) (by simp) (w2.heap.size + 2) (by simp) ?_; intro g2 cap2 w3 hown1 hgrow hat hglt; have HO1 := Lib.hid hown1; have HG1 := Lib.hid hgrow; clear hown1 hgrow hat)
        have hB3 : Below w.heap.size w w3 := (((HB2.out.alloc HB2.out.size _).alloc (by simp; have := HB2.out.size; omega) _)).trans (grown_low HG1.out (by simp; have := HB2.out.size; omega) (fun k e => by simp [Value.ownBlock] at e; have := HB2.out.size; omega))
        have hN3 : w3.cell? ⟨w2.heap.size, 0, none⟩ = some (.int .i64 (tl : Int)) := (HG1.out.cell_far ⟨w2.heap.size, 0, none⟩ (by simp; omega) (by simp [Value.ownBlock])).trans ((World.cell?_alloc_past _ _ _ (by simp)).trans (by rw [cell_of_row _ _ _ _ _ _ (heap_alloc_new w2 _)]; rfl))
        have hw23 : w2.heap.size < w3.heap.size := by have := (grown_low (B := 0) HG1.out (Nat.zero_le _) (fun _ _ => Nat.zero_le _)).size; simp at this; omega
        have hT3 : ∀ j (hj : j < T.length), w3.cell? ⟨g2, j, none⟩ = some (.string T[j]) := fun j hj => cellAt0 HO1.out j _ (by simp [List.getElem?_eq_getElem hj])
        have hcap2 : tl ≤ cap2 ∧ cap2 ≤ 9223372036854775807 := by
          rcases HO1.out.2 with ⟨e, _⟩ | ⟨g', c', cur, e, _, _, h1, h2, _⟩
          · cases e
          · injection e with _ _ e; subst e; exact ⟨by omega, h2⟩
        have HN3 := Lib.hid hN3
        have HT3 := Lib.hid hT3
        have hB4 : Below w.heap.size w (w3.alloc (.cells #[.slice (some ⟨w2.heap.size, 0, none⟩) 1 1, .slice (some ⟨g2, 0, none⟩) tl cap2] 31)) := hB3.alloc hB3.size _
        obtain ⟨x, hx⟩ : ∃ x, encO (42 :: 40 :: 111 :: (D ++ [41])) [(tl : Int)] T = x := ⟨_, rfl⟩
        have henc := encode_any (42 :: 40 :: 111 :: (D ++ [41])) [(tl : Int)] T (some ⟨w2.heap.size, 0, none⟩) 1 (some ⟨g2, 0, none⟩) cap2 (w3.alloc (.cells #[.slice (some ⟨w2.heap.size, 0, none⟩) 1 1, .slice (some ⟨g2, 0, none⟩) tl cap2] 31))
          (fun j hj => ⟨w2.heap.size, 0, rfl, by simp; omega, by
            obtain rfl : j = 0 := by simp at hj; omega
            exact (World.cell?_alloc_past _ _ _ hw23).trans HN3.out⟩)
          (fun j hj => ⟨g2, 0, rfl, by simp; omega, by rw [Nat.zero_add]; exact (World.cell?_alloc_past _ _ _ hglt).trans (HT3.out j hj)⟩)
          (by simp) (by rw [HTL.out]; exact hcap2) (by unfold worth; rw [HTL.out]; simp; omega) x hx
        rw [← HF.out, HTL.out] at henc
        have hout := enc_counts HD.out T (by rw [HTL.out]; exact htle)
        rw [HTL.out, hx] at hout
        have HE := Lib.hid henc
        have HOUT := Lib.hid hout
        have HB4 := Lib.hid hB4
        have HX := Lib.hid hx
        clear henc hout hB4 hx hB3 hN3 hT3 hcap2 hs1 hs2 hcat
        refine HE.out.mono ?_
        rintro r w5 ⟨hB5, hr⟩
        have HB5 := Lib.hid (HB4.out.trans (hB5.mono HB4.out.size))
        clear hB5
        obtain ⟨sx, ex, hsx⟩ : ∃ (sx : ByteArray) (ex : Int), r = .returned (.tuple #[.string sx, .int .i64 ex]) ∧ Last T m sx ex := last_of hr HOUT.out
        obtain ⟨rfl, hlast⟩ := hsx
        have HLA := Lib.hid hlast
        clear hlast hr
        go_wp2_with fail
        go_loopw [9, 10, 11] (fun z l i wr => ∃ k : Nat, k ≤ tl ∧ z = .int .i64 ((4 + szS (T.take k) : Nat) : Int) ∧ l = .bool (lg m (T.take k)) ∧ i = .int .i64 k ∧ w5 = wr) (fun _ _ i _ => tl - (intOf i).toNat)
        case atStart => exact ⟨0, Nat.zero_le _, rfl, rfl, rfl, rfl⟩
        case round =>
          obtain ⟨k, hk, rfl, rfl, rfl, rfl⟩ := hrel
          by_cases hlt : k < tl
          · have hkT : k < T.length := by have := HTL.out; omega
            obtain ⟨g', off', e', hg', hc'⟩ := HI2.out k hkT
            simp only [Option.some.injEq, Addr.mk.injEq, and_true] at e'
            obtain ⟨rfl, rfl⟩ := e'
            have hcell := (World.cell?_of_block (a := ⟨g0, off0 + k, none⟩) (HB5.out.block g0 hg0)).trans hc'
            have hbnd := HS.out T[k] (List.getElem_mem hkT)
            have htk : T.take (k + 1) = T.take k ++ [T[k]] := List.take_succ_eq_append_getElem hkT
            have hz := szS_app (T.take k) T[k]
            have hlg := lg_app m (T.take k) T[k]
            rw [← htk] at hz hlg
            have hle := szS_le 140737488355328 (T.take k) (fun s hs => HS.out s (List.mem_of_mem_take hs))
            have hle2 : szS (T.take k) ≤ 1000 * 140737488355339 := Nat.le_trans hle (Nat.mul_le_mul (by rw [List.length_take]; omega) (Nat.le_refl _))
            generalize T[k] = s at *
            generalize szS (T.take k) = a at *
            generalize lg m (T.take k) = b at *
            have HZ := Lib.hid hz
            have HLG := Lib.hid hlg
            clear hz hlg hle htk hc' hg'
            cases b
            · go_wp2
              exact ⟨⟨k + 1, by omega, by rw [HZ.out]; congr 1; omega, by rw [HLG.out]; rfl, by go_num, trivial⟩, by simp [intOf]; omega⟩
            · go_wp2
              exact ⟨⟨k + 1, by omega, by rw [HZ.out]; congr 1; omega, by rw [HLG.out]; rfl, by go_num, trivial⟩, by simp [intOf]; omega⟩
          · obtain rfl : k = tl := by omega
            have htk : T.take k = T := by rw [← HTL.out]; exact List.take_length
            have hle := szS_le 140737488355328 T (fun s hs => HS.out s hs)
            have hle2 : szS T ≤ 1000 * 140737488355339 := Nat.le_trans hle (Nat.mul_le_mul (by rw [HTL.out]; omega) (Nat.le_refl _))
            have hla := HLA.out
            unfold Last at hla
            rw [htk]
            obtain ⟨Z, hZ⟩ : ∃ Z, 4 + szS T = Z := ⟨_, rfl⟩
            obtain ⟨b, hb⟩ : ∃ b, lg m T = b := ⟨_, rfl⟩
            have hZ2 : Z ≤ 140737488355339004 := by omega
            rw [hZ, hb] at hla
            rw [hZ, hb]
            clear hle hle2 hZ hb htk HLA
            cases b
            · rw [if_neg (by decide)] at hla
              by_cases hbig : 65536 < Z
              · rw [if_pos hbig] at hla
                subst hla
                go_wp2
                go_ret
                exact ⟨rfl, HB5.out⟩
              · rw [if_neg hbig] at hla
                obtain ⟨rfl, hsz⟩ := hla
                go_wp2
                go_ret
                exact ⟨by first | rfl | simp [hsz], HB5.out⟩
            · rw [if_pos rfl] at hla
              subst hla
              go_wp2
              go_ret
              exact ⟨rfl, HB5.out⟩
    · go_wp2_with fail
      rw [show (9 : Int) = (m : Int) from by rw [hm]; rfl]
      clear hm
      rw [show L.length = tl from by omega]
      refine (digits_any m hm0 hm1 _).mono ?_
      rintro r w2 ⟨D, rfl, hD, hB2⟩
      have HD := Lib.hid hD
      have HB2 := Lib.hid (HB1.out.trans (hB2.mono HB1.out.size))
      have hlen := hD.len
      clear hB2 hD
      have hcat := cat_form D
      obtain ⟨F, hF⟩ : ∃ F : ByteArray, F = ⟨(42 :: 40 :: 111 :: (D ++ [41])).toArray⟩ := ⟨_, rfl⟩
      rw [← hF] at hcat
      have hs1 : (9223372036854775807 < 3 + D.length) = False := by simp; omega
      have hs2 : (9223372036854775807 < 3 + D.length + 1) = False := by simp; omega
      have HF := Lib.hid hF
      have HH1 := Lib.hid htl1
      clear hF htl1
      by_cases ht0 : tl = 0
      · have hT0 : T = [] := List.eq_nil_of_length_eq_zero (by rw [HTL.out]; exact ht0)
        clear htle
        subst hT0 ht0
        have hrun : ∀ ty, (Builtin.append_ #[26, 26] ty #[.slice (some ⟨w2.heap.size + 1, 0, none⟩) 0 0, .slice ao 0 cap]).run Tryd.prog ((w2.alloc (.cells #[.int .i64 0] 3)).alloc (.cells #[] 9)) = .ok (.slice (some ⟨w2.heap.size + 1, 0, none⟩) 0 0) ((w2.alloc (.cells #[.int .i64 0] 3)).alloc (.cells #[] 9)) := fun ty => by
          obtain ⟨i3, hi3, hz30, hz31, hz32⟩ := info_parts info9
          have hsrc : Src Tryd.prog i3.size 26 (.slice ao 0 cap) 0 [] ((w2.alloc (.cells #[.int .i64 0] 3)).alloc (.cells #[] 9)) := by
            cases ao with
            | none => exact Src.ofNil _ Tryd.underlying26 cap
            | some a => exact Src.ofSlice _ Tryd.underlying26 a 0 cap [] (by simp) (by simp) (by simp)
          exact run_append_room_src (P := Tryd.prog) _ 26 26 ty 9 i3 Tryd.underlying26 hi3 (w2.heap.size + 1) 0 0 0 (.slice ao 0 cap) 0 [] hsrc (by omega) (by simp) (by simp)
        have HR := Lib.hid hrun
        clear hrun
        go_wp2_with (at_builtin; refine Lib.wpList_append_run _ rfl (.tmp 32) (.tmp 33) 26 26 rfl _ _ rfl rfl _ _ (HR.out _) ?_)
        have hB3 : Below w.heap.size w ((w2.alloc (.cells #[.int .i64 0] 3)).alloc (.cells #[] 9)) := (HB2.out.alloc HB2.out.size _).alloc (by simp; have := HB2.out.size; omega) _
        have hN3 : ((w2.alloc (.cells #[.int .i64 0] 3)).alloc (.cells #[] 9)).cell? ⟨w2.heap.size, 0, none⟩ = some (.int .i64 0) := (World.cell?_alloc_past _ _ _ (by simp)).trans (by rw [cell_of_row _ _ _ _ _ _ (heap_alloc_new w2 _)]; rfl)
        have hw23 : w2.heap.size < ((w2.alloc (.cells #[.int .i64 0] 3)).alloc (.cells #[] 9)).heap.size := by simp; omega
        generalize (w2.alloc (.cells #[.int .i64 0] 3)).alloc (.cells #[] 9) = w3 at *
        have HN3 := Lib.hid hN3
        have hB4 : Below w.heap.size w (w3.alloc (.cells #[.slice (some ⟨w2.heap.size, 0, none⟩) 1 1, .slice (some ⟨w2.heap.size + 1, 0, none⟩) 0 0] 31)) := hB3.alloc hB3.size _
        obtain ⟨x, hx⟩ : ∃ x, encO (42 :: 40 :: 111 :: (D ++ [41])) [(0 : Int)] [] = x := ⟨_, rfl⟩
        have henc := encode_any (42 :: 40 :: 111 :: (D ++ [41])) [(0 : Int)] [] (some ⟨w2.heap.size, 0, none⟩) 1 (some ⟨w2.heap.size + 1, 0, none⟩) 0 (w3.alloc (.cells #[.slice (some ⟨w2.heap.size, 0, none⟩) 1 1, .slice (some ⟨w2.heap.size + 1, 0, none⟩) 0 0] 31))
          (fun j hj => ⟨w2.heap.size, 0, rfl, by simp; omega, by
            obtain rfl : j = 0 := by simp at hj; omega
            exact (World.cell?_alloc_past _ _ _ hw23).trans HN3.out⟩)
          (fun j hj => absurd hj (by simp))
          (by simp) (by simp) (by unfold worth; simp) x hx
        rw [← HF.out] at henc
        have hout := enc_counts HD.out [] (by simp)
        rw [show ((([] : List ByteArray).length : Nat) : Int) = 0 from rfl, hx] at hout
        have HE := Lib.hid henc
        have HOUT := Lib.hid hout
        have HB4 := Lib.hid hB4
        have HX := Lib.hid hx
        clear henc hout hB4 hx hB3 hN3 hs1 hs2 hcat
        refine HE.out.mono ?_
        rintro r w5 ⟨hB5, hr⟩
        have HB5 := Lib.hid (HB4.out.trans (hB5.mono HB4.out.size))
        clear hB5
        obtain ⟨sx, ex, hsx⟩ : ∃ (sx : ByteArray) (ex : Int), r = .returned (.tuple #[.string sx, .int .i64 ex]) ∧ Last [] m sx ex := last_of hr HOUT.out
        obtain ⟨rfl, hlast⟩ := hsx
        have HLA := Lib.hid hlast
        clear hlast hr
        have hla := HLA.out
        unfold Last at hla
        rw [if_neg (by simp [lg]), if_neg (by simp [szS])] at hla
        obtain ⟨rfl, hsz⟩ := hla
        simp only [szS] at hsz
        go_wp2_with fail
        go_loopw [9, 10, 11] (fun z l i wr => z = .int .i64 4 ∧ l = .bool false ∧ i = .int .i64 0 ∧ w5 = wr) (fun _ _ i _ => 0)
        case atStart => exact ⟨rfl, rfl, rfl, rfl⟩
        case round =>
          obtain ⟨rfl, rfl, rfl, rfl⟩ := hrel
          go_wp2
          go_ret
          exact ⟨by first | rfl | simp [hsz], HB5.out⟩
      · obtain ⟨g0, off0, rfl, hg0, _⟩ := HI2.out 0 (by have := HTL.out; omega)
        have hg2 : g0 < w2.heap.size := Nat.lt_of_lt_of_le hg0 HB2.out.size
        have hnews : ∀ j u, (T.map Value.string)[j]? = some u → ((w2.alloc (.cells #[.int .i64 (tl : Int)] 3)).alloc (.cells #[] 9)).cell? ((⟨g0, off0, none⟩ : Addr).add j) = some u := fun j u hu => by
          have hj : j < T.length := by
            rcases Nat.lt_or_ge j T.length with h | h
            · exact h
            · rw [List.getElem?_eq_none (by simpa using h)] at hu; cases hu
          obtain ⟨g', off', e, _, hc⟩ := HI2.out j hj
          simp only [Option.some.injEq, Addr.mk.injEq, and_true] at e
          obtain ⟨rfl, rfl⟩ := e
          rw [List.getElem?_map, List.getElem?_eq_getElem hj] at hu
          simp only [Option.map_some, Option.some.injEq] at hu
          rw [← hu, show (⟨g0, off0, none⟩ : Addr).add j = ⟨g0, off0 + j, none⟩ from by unfold Addr.add; split <;> simp_all]
          rw [World.cell?_alloc_past _ _ _ (by simp; omega), World.cell?_alloc_past _ _ _ hg2]
          exact (World.cell?_of_block (a := ⟨g0, off0 + j, none⟩) (HB2.out.block g0 hg0)).trans hc
        have hown0 : ((w2.alloc (.cells #[.int .i64 (tl : Int)] 3)).alloc (.cells #[] 9)).ownsRow (w2.heap.size + 1) 9 1 (.slice (some ⟨w2.heap.size + 1, 0, none⟩) 0 0) 0 [] :=
          ⟨rfl, .inr ⟨w2.heap.size + 1, 0, #[], rfl, Nat.le_refl _, by have := heap_alloc_new (w2.alloc (.cells #[.int .i64 (tl : Int)] 3)) (.cells #[] 9); simpa using this, Nat.le_refl _, by decide, rfl, rfl⟩⟩
        have HNW := Lib.hid hnews
        have HO0 := Lib.hid hown0
        clear hnews hown0
        obtain ⟨i3, hi3, hz30, hz31, hz32⟩ := info_parts info9
        go_wp2_with (at_builtin; refine wpList_append_lies _ rfl (.tmp 32) (.tmp 33) 26 rfl (w2.heap.size + 1) 9 i3 _ 1 16 Tryd.underlying26 hi3 hz30 hz31 hz32 rfl (by omega) (.slice (some ⟨w2.heap.size + 1, 0, none⟩) 0 0) 0 [] rfl HO0.out ⟨g0, off0, none⟩ tl cap (T.map Value.string) (by rfl) (by rw [List.length_map, HTL.out, Nat.mul_one]) HNW.out (by simp [Value.oneCell']) (by omega) (by unfold maxLen; omega) (by omega) (by simp) (w2.heap.size + 2) (by simp) ?_; intro g2 cap2 w3 hown1 hgrow hat hglt; have HO1 := Lib.hid hown1; have HG1 := Lib.hid hgrow; clear hown1 hgrow hat)
        have hB3 : Below w.heap.size w w3 := (((HB2.out.alloc HB2.out.size _).alloc (by simp; have := HB2.out.size; omega) _)).trans (grown_low HG1.out (by simp; have := HB2.out.size; omega) (fun k e => by simp [Value.ownBlock] at e; have := HB2.out.size; omega))
        have hN3 : w3.cell? ⟨w2.heap.size, 0, none⟩ = some (.int .i64 (tl : Int)) := (HG1.out.cell_far ⟨w2.heap.size, 0, none⟩ (by simp; omega) (by simp [Value.ownBlock])).trans ((World.cell?_alloc_past _ _ _ (by simp)).trans (by rw [cell_of_row _ _ _ _ _ _ (heap_alloc_new w2 _)]; rfl))
        have hw23 : w2.heap.size < w3.heap.size := by have := (grown_low (B := 0) HG1.out (Nat.zero_le _) (fun _ _ => Nat.zero_le _)).size; simp at this; omega
        have hT3 : ∀ j (hj : j < T.length), w3.cell? ⟨g2, j, none⟩ = some (.string T[j]) := fun j hj => cellAt0 HO1.out j _ (by simp [List.getElem?_eq_getElem hj])
        have hcap2 : tl ≤ cap2 ∧ cap2 ≤ 9223372036854775807 := by
          rcases HO1.out.2 with ⟨e, _⟩ | ⟨g', c', cur, e, _, _, h1, h2, _⟩
          · cases e
          · injection e with _ _ e; subst e; exact ⟨by omega, h2⟩
        have HN3 := Lib.hid hN3
        have HT3 := Lib.hid hT3
        have hB4 : Below w.heap.size w (w3.alloc (.cells #[.slice (some ⟨w2.heap.size, 0, none⟩) 1 1, .slice (some ⟨g2, 0, none⟩) tl cap2] 31)) := hB3.alloc hB3.size _
        obtain ⟨x, hx⟩ : ∃ x, encO (42 :: 40 :: 111 :: (D ++ [41])) [(tl : Int)] T = x := ⟨_, rfl⟩
        have henc := encode_any (42 :: 40 :: 111 :: (D ++ [41])) [(tl : Int)] T (some ⟨w2.heap.size, 0, none⟩) 1 (some ⟨g2, 0, none⟩) cap2 (w3.alloc (.cells #[.slice (some ⟨w2.heap.size, 0, none⟩) 1 1, .slice (some ⟨g2, 0, none⟩) tl cap2] 31))
          (fun j hj => ⟨w2.heap.size, 0, rfl, by simp; omega, by
            obtain rfl : j = 0 := by simp at hj; omega
            exact (World.cell?_alloc_past _ _ _ hw23).trans HN3.out⟩)
          (fun j hj => ⟨g2, 0, rfl, by simp; omega, by rw [Nat.zero_add]; exact (World.cell?_alloc_past _ _ _ hglt).trans (HT3.out j hj)⟩)
          (by simp) (by rw [HTL.out]; exact hcap2) (by unfold worth; rw [HTL.out]; simp; omega) x hx
        rw [← HF.out, HTL.out] at henc
        have hout := enc_counts HD.out T (by rw [HTL.out]; exact htle)
        rw [HTL.out, hx] at hout
        have HE := Lib.hid henc
        have HOUT := Lib.hid hout
        have HB4 := Lib.hid hB4
        have HX := Lib.hid hx
        clear henc hout hB4 hx hB3 hN3 hT3 hcap2 hs1 hs2 hcat
        refine HE.out.mono ?_
        rintro r w5 ⟨hB5, hr⟩
        have HB5 := Lib.hid (HB4.out.trans (hB5.mono HB4.out.size))
        clear hB5
        obtain ⟨sx, ex, hsx⟩ : ∃ (sx : ByteArray) (ex : Int), r = .returned (.tuple #[.string sx, .int .i64 ex]) ∧ Last T m sx ex := last_of hr HOUT.out
        obtain ⟨rfl, hlast⟩ := hsx
        have HLA := Lib.hid hlast
        clear hlast hr
        go_wp2_with fail
        go_loopw [9, 10, 11] (fun z l i wr => ∃ k : Nat, k ≤ tl ∧ z = .int .i64 ((4 + szS (T.take k) : Nat) : Int) ∧ l = .bool (lg m (T.take k)) ∧ i = .int .i64 k ∧ w5 = wr) (fun _ _ i _ => tl - (intOf i).toNat)
        case atStart => exact ⟨0, Nat.zero_le _, rfl, rfl, rfl, rfl⟩
        case round =>
          obtain ⟨k, hk, rfl, rfl, rfl, rfl⟩ := hrel
          by_cases hlt : k < tl
          · have hkT : k < T.length := by have := HTL.out; omega
            obtain ⟨g', off', e', hg', hc'⟩ := HI2.out k hkT
            simp only [Option.some.injEq, Addr.mk.injEq, and_true] at e'
            obtain ⟨rfl, rfl⟩ := e'
            have hcell := (World.cell?_of_block (a := ⟨g0, off0 + k, none⟩) (HB5.out.block g0 hg0)).trans hc'
            have hbnd := HS.out T[k] (List.getElem_mem hkT)
            have htk : T.take (k + 1) = T.take k ++ [T[k]] := List.take_succ_eq_append_getElem hkT
            have hz := szS_app (T.take k) T[k]
            have hlg := lg_app m (T.take k) T[k]
            rw [← htk] at hz hlg
            have hle := szS_le 140737488355328 (T.take k) (fun s hs => HS.out s (List.mem_of_mem_take hs))
            have hle2 : szS (T.take k) ≤ 1000 * 140737488355339 := Nat.le_trans hle (Nat.mul_le_mul (by rw [List.length_take]; omega) (Nat.le_refl _))
            generalize T[k] = s at *
            generalize szS (T.take k) = a at *
            generalize lg m (T.take k) = b at *
            have HZ := Lib.hid hz
            have HLG := Lib.hid hlg
            clear hz hlg hle htk hc' hg'
            cases b
            · go_wp2
              exact ⟨⟨k + 1, by omega, by rw [HZ.out]; congr 1; omega, by rw [HLG.out]; rfl, by go_num, trivial⟩, by simp [intOf]; omega⟩
            · go_wp2
              exact ⟨⟨k + 1, by omega, by rw [HZ.out]; congr 1; omega, by rw [HLG.out]; rfl, by go_num, trivial⟩, by simp [intOf]; omega⟩
          · obtain rfl : k = tl := by omega
            have htk : T.take k = T := by rw [← HTL.out]; exact List.take_length
            have hle := szS_le 140737488355328 T (fun s hs => HS.out s hs)
            have hle2 : szS T ≤ 1000 * 140737488355339 := Nat.le_trans hle (Nat.mul_le_mul (by rw [HTL.out]; omega) (Nat.le_refl _))
            have hla := HLA.out
            unfold Last at hla
            rw [htk]
            obtain ⟨Z, hZ⟩ : ∃ Z, 4 + szS T = Z := ⟨_, rfl⟩
            obtain ⟨b, hb⟩ : ∃ b, lg m T = b := ⟨_, rfl⟩
            have hZ2 : Z ≤ 140737488355339004 := by omega
            rw [hZ, hb] at hla
            rw [hZ, hb]
            clear hle hle2 hZ hb htk HLA
            cases b
            · rw [if_neg (by decide)] at hla
              by_cases hbig : 65536 < Z
              · rw [if_pos hbig] at hla
                subst hla
                go_wp2
                go_ret
                exact ⟨rfl, HB5.out⟩
              · rw [if_neg hbig] at hla
                obtain ⟨rfl, hsz⟩ := hla
                go_wp2
                go_ret
                exact ⟨by first | rfl | simp [hsz], HB5.out⟩
            · rw [if_pos rfl] at hla
              subst hla
              go_wp2
              go_ret
              exact ⟨rfl, HB5.out⟩
  · by_cases hL : 1000 < L.length
    · have hc1000 : 1000 ≤ cap := by have := HC.out; omega
      go_wp2_with fail
      rw [show (1000 : Nat) = tl from by omega]
      refine (digits_any m hm0 hm1 _).mono ?_
      rintro r w2 ⟨D, rfl, hD, hB2⟩
      have HD := Lib.hid hD
      have HB2 := Lib.hid (HB1.out.trans (hB2.mono HB1.out.size))
      have hlen := hD.len
      clear hB2 hD
      have hcat := cat_form D
      obtain ⟨F, hF⟩ : ∃ F : ByteArray, F = ⟨(42 :: 40 :: 111 :: (D ++ [41])).toArray⟩ := ⟨_, rfl⟩
      rw [← hF] at hcat
      have hs1 : (9223372036854775807 < 3 + D.length) = False := by simp; omega
      have hs2 : (9223372036854775807 < 3 + D.length + 1) = False := by simp; omega
      have HF := Lib.hid hF
      have HH1 := Lib.hid htl1
      clear hF htl1
      by_cases ht0 : tl = 0
      · have hT0 : T = [] := List.eq_nil_of_length_eq_zero (by rw [HTL.out]; exact ht0)
        clear htle
        subst hT0 ht0
        have hrun : ∀ ty, (Builtin.append_ #[26, 26] ty #[.slice (some ⟨w2.heap.size + 1, 0, none⟩) 0 0, .slice ao 0 cap]).run Tryd.prog ((w2.alloc (.cells #[.int .i64 0] 3)).alloc (.cells #[] 9)) = .ok (.slice (some ⟨w2.heap.size + 1, 0, none⟩) 0 0) ((w2.alloc (.cells #[.int .i64 0] 3)).alloc (.cells #[] 9)) := fun ty => by
          obtain ⟨i3, hi3, hz30, hz31, hz32⟩ := info_parts info9
          have hsrc : Src Tryd.prog i3.size 26 (.slice ao 0 cap) 0 [] ((w2.alloc (.cells #[.int .i64 0] 3)).alloc (.cells #[] 9)) := by
            cases ao with
            | none => exact Src.ofNil _ Tryd.underlying26 cap
            | some a => exact Src.ofSlice _ Tryd.underlying26 a 0 cap [] (by simp) (by simp) (by simp)
          exact run_append_room_src (P := Tryd.prog) _ 26 26 ty 9 i3 Tryd.underlying26 hi3 (w2.heap.size + 1) 0 0 0 (.slice ao 0 cap) 0 [] hsrc (by omega) (by simp) (by simp)
        have HR := Lib.hid hrun
        clear hrun
        go_wp2_with (at_builtin; refine Lib.wpList_append_run _ rfl (.tmp 32) (.tmp 33) 26 26 rfl _ _ rfl rfl _ _ (HR.out _) ?_)
        have hB3 : Below w.heap.size w ((w2.alloc (.cells #[.int .i64 0] 3)).alloc (.cells #[] 9)) := (HB2.out.alloc HB2.out.size _).alloc (by simp; have := HB2.out.size; omega) _
        have hN3 : ((w2.alloc (.cells #[.int .i64 0] 3)).alloc (.cells #[] 9)).cell? ⟨w2.heap.size, 0, none⟩ = some (.int .i64 0) := (World.cell?_alloc_past _ _ _ (by simp)).trans (by rw [cell_of_row _ _ _ _ _ _ (heap_alloc_new w2 _)]; rfl)
        have hw23 : w2.heap.size < ((w2.alloc (.cells #[.int .i64 0] 3)).alloc (.cells #[] 9)).heap.size := by simp; omega
        generalize (w2.alloc (.cells #[.int .i64 0] 3)).alloc (.cells #[] 9) = w3 at *
        have HN3 := Lib.hid hN3
        have hB4 : Below w.heap.size w (w3.alloc (.cells #[.slice (some ⟨w2.heap.size, 0, none⟩) 1 1, .slice (some ⟨w2.heap.size + 1, 0, none⟩) 0 0] 31)) := hB3.alloc hB3.size _
        obtain ⟨x, hx⟩ : ∃ x, encO (42 :: 40 :: 111 :: (D ++ [41])) [(0 : Int)] [] = x := ⟨_, rfl⟩
        have henc := encode_any (42 :: 40 :: 111 :: (D ++ [41])) [(0 : Int)] [] (some ⟨w2.heap.size, 0, none⟩) 1 (some ⟨w2.heap.size + 1, 0, none⟩) 0 (w3.alloc (.cells #[.slice (some ⟨w2.heap.size, 0, none⟩) 1 1, .slice (some ⟨w2.heap.size + 1, 0, none⟩) 0 0] 31))
          (fun j hj => ⟨w2.heap.size, 0, rfl, by simp; omega, by
            obtain rfl : j = 0 := by simp at hj; omega
            exact (World.cell?_alloc_past _ _ _ hw23).trans HN3.out⟩)
          (fun j hj => absurd hj (by simp))
          (by simp) (by simp) (by unfold worth; simp) x hx
        rw [← HF.out] at henc
        have hout := enc_counts HD.out [] (by simp)
        rw [show ((([] : List ByteArray).length : Nat) : Int) = 0 from rfl, hx] at hout
        have HE := Lib.hid henc
        have HOUT := Lib.hid hout
        have HB4 := Lib.hid hB4
        have HX := Lib.hid hx
        clear henc hout hB4 hx hB3 hN3 hs1 hs2 hcat
        refine HE.out.mono ?_
        rintro r w5 ⟨hB5, hr⟩
        have HB5 := Lib.hid (HB4.out.trans (hB5.mono HB4.out.size))
        clear hB5
        obtain ⟨sx, ex, hsx⟩ : ∃ (sx : ByteArray) (ex : Int), r = .returned (.tuple #[.string sx, .int .i64 ex]) ∧ Last [] m sx ex := last_of hr HOUT.out
        obtain ⟨rfl, hlast⟩ := hsx
        have HLA := Lib.hid hlast
        clear hlast hr
        have hla := HLA.out
        unfold Last at hla
        rw [if_neg (by simp [lg]), if_neg (by simp [szS])] at hla
        obtain ⟨rfl, hsz⟩ := hla
        simp only [szS] at hsz
        go_wp2_with fail
        go_loopw [9, 10, 11] (fun z l i wr => z = .int .i64 4 ∧ l = .bool false ∧ i = .int .i64 0 ∧ w5 = wr) (fun _ _ i _ => 0)
        case atStart => exact ⟨rfl, rfl, rfl, rfl⟩
        case round =>
          obtain ⟨rfl, rfl, rfl, rfl⟩ := hrel
          go_wp2
          go_ret
          exact ⟨by first | rfl | simp [hsz], HB5.out⟩
      · obtain ⟨g0, off0, rfl, hg0, _⟩ := HI2.out 0 (by have := HTL.out; omega)
        have hg2 : g0 < w2.heap.size := Nat.lt_of_lt_of_le hg0 HB2.out.size
        have hnews : ∀ j u, (T.map Value.string)[j]? = some u → ((w2.alloc (.cells #[.int .i64 (tl : Int)] 3)).alloc (.cells #[] 9)).cell? ((⟨g0, off0, none⟩ : Addr).add j) = some u := fun j u hu => by
          have hj : j < T.length := by
            rcases Nat.lt_or_ge j T.length with h | h
            · exact h
            · rw [List.getElem?_eq_none (by simpa using h)] at hu; cases hu
          obtain ⟨g', off', e, _, hc⟩ := HI2.out j hj
          simp only [Option.some.injEq, Addr.mk.injEq, and_true] at e
          obtain ⟨rfl, rfl⟩ := e
          rw [List.getElem?_map, List.getElem?_eq_getElem hj] at hu
          simp only [Option.map_some, Option.some.injEq] at hu
          rw [← hu, show (⟨g0, off0, none⟩ : Addr).add j = ⟨g0, off0 + j, none⟩ from by unfold Addr.add; split <;> simp_all]
          rw [World.cell?_alloc_past _ _ _ (by simp; omega), World.cell?_alloc_past _ _ _ hg2]
          exact (World.cell?_of_block (a := ⟨g0, off0 + j, none⟩) (HB2.out.block g0 hg0)).trans hc
        have hown0 : ((w2.alloc (.cells #[.int .i64 (tl : Int)] 3)).alloc (.cells #[] 9)).ownsRow (w2.heap.size + 1) 9 1 (.slice (some ⟨w2.heap.size + 1, 0, none⟩) 0 0) 0 [] :=
          ⟨rfl, .inr ⟨w2.heap.size + 1, 0, #[], rfl, Nat.le_refl _, by have := heap_alloc_new (w2.alloc (.cells #[.int .i64 (tl : Int)] 3)) (.cells #[] 9); simpa using this, Nat.le_refl _, by decide, rfl, rfl⟩⟩
        have HNW := Lib.hid hnews
        have HO0 := Lib.hid hown0
        clear hnews hown0
        obtain ⟨i3, hi3, hz30, hz31, hz32⟩ := info_parts info9
        go_wp2_with (at_builtin; refine wpList_append_lies _ rfl (.tmp 32) (.tmp 33) 26 rfl (w2.heap.size + 1) 9 i3 _ 1 16 Tryd.underlying26 hi3 hz30 hz31 hz32 rfl (by omega) (.slice (some ⟨w2.heap.size + 1, 0, none⟩) 0 0) 0 [] rfl HO0.out ⟨g0, off0, none⟩ tl cap (T.map Value.string) (by rfl) (by rw [List.length_map, HTL.out, Nat.mul_one]) HNW.out (by simp [Value.oneCell']) (by omega) (by unfold maxLen; omega) (by omega) (by simp) (w2.heap.size + 2) (by simp) ?_; intro g2 cap2 w3 hown1 hgrow hat hglt; have HO1 := Lib.hid hown1; have HG1 := Lib.hid hgrow; clear hown1 hgrow hat)
        have hB3 : Below w.heap.size w w3 := (((HB2.out.alloc HB2.out.size _).alloc (by simp; have := HB2.out.size; omega) _)).trans (grown_low HG1.out (by simp; have := HB2.out.size; omega) (fun k e => by simp [Value.ownBlock] at e; have := HB2.out.size; omega))
        have hN3 : w3.cell? ⟨w2.heap.size, 0, none⟩ = some (.int .i64 (tl : Int)) := (HG1.out.cell_far ⟨w2.heap.size, 0, none⟩ (by simp; omega) (by simp [Value.ownBlock])).trans ((World.cell?_alloc_past _ _ _ (by simp)).trans (by rw [cell_of_row _ _ _ _ _ _ (heap_alloc_new w2 _)]; rfl))
        have hw23 : w2.heap.size < w3.heap.size := by have := (grown_low (B := 0) HG1.out (Nat.zero_le _) (fun _ _ => Nat.zero_le _)).size; simp at this; omega
        have hT3 : ∀ j (hj : j < T.length), w3.cell? ⟨g2, j, none⟩ = some (.string T[j]) := fun j hj => cellAt0 HO1.out j _ (by simp [List.getElem?_eq_getElem hj])
        have hcap2 : tl ≤ cap2 ∧ cap2 ≤ 9223372036854775807 := by
          rcases HO1.out.2 with ⟨e, _⟩ | ⟨g', c', cur, e, _, _, h1, h2, _⟩
          · cases e
          · injection e with _ _ e; subst e; exact ⟨by omega, h2⟩
        have HN3 := Lib.hid hN3
        have HT3 := Lib.hid hT3
        have hB4 : Below w.heap.size w (w3.alloc (.cells #[.slice (some ⟨w2.heap.size, 0, none⟩) 1 1, .slice (some ⟨g2, 0, none⟩) tl cap2] 31)) := hB3.alloc hB3.size _
        obtain ⟨x, hx⟩ : ∃ x, encO (42 :: 40 :: 111 :: (D ++ [41])) [(tl : Int)] T = x := ⟨_, rfl⟩
        have henc := encode_any (42 :: 40 :: 111 :: (D ++ [41])) [(tl : Int)] T (some ⟨w2.heap.size, 0, none⟩) 1 (some ⟨g2, 0, none⟩) cap2 (w3.alloc (.cells #[.slice (some ⟨w2.heap.size, 0, none⟩) 1 1, .slice (some ⟨g2, 0, none⟩) tl cap2] 31))
          (fun j hj => ⟨w2.heap.size, 0, rfl, by simp; omega, by
            obtain rfl : j = 0 := by simp at hj; omega
            exact (World.cell?_alloc_past _ _ _ hw23).trans HN3.out⟩)
          (fun j hj => ⟨g2, 0, rfl, by simp; omega, by rw [Nat.zero_add]; exact (World.cell?_alloc_past _ _ _ hglt).trans (HT3.out j hj)⟩)
          (by simp) (by rw [HTL.out]; exact hcap2) (by unfold worth; rw [HTL.out]; simp; omega) x hx
        rw [← HF.out, HTL.out] at henc
        have hout := enc_counts HD.out T (by rw [HTL.out]; exact htle)
        rw [HTL.out, hx] at hout
        have HE := Lib.hid henc
        have HOUT := Lib.hid hout
        have HB4 := Lib.hid hB4
        have HX := Lib.hid hx
        clear henc hout hB4 hx hB3 hN3 hT3 hcap2 hs1 hs2 hcat
        refine HE.out.mono ?_
        rintro r w5 ⟨hB5, hr⟩
        have HB5 := Lib.hid (HB4.out.trans (hB5.mono HB4.out.size))
        clear hB5
        obtain ⟨sx, ex, hsx⟩ : ∃ (sx : ByteArray) (ex : Int), r = .returned (.tuple #[.string sx, .int .i64 ex]) ∧ Last T m sx ex := last_of hr HOUT.out
        obtain ⟨rfl, hlast⟩ := hsx
        have HLA := Lib.hid hlast
        clear hlast hr
        go_wp2_with fail
        go_loopw [9, 10, 11] (fun z l i wr => ∃ k : Nat, k ≤ tl ∧ z = .int .i64 ((4 + szS (T.take k) : Nat) : Int) ∧ l = .bool (lg m (T.take k)) ∧ i = .int .i64 k ∧ w5 = wr) (fun _ _ i _ => tl - (intOf i).toNat)
        case atStart => exact ⟨0, Nat.zero_le _, rfl, rfl, rfl, rfl⟩
        case round =>
          obtain ⟨k, hk, rfl, rfl, rfl, rfl⟩ := hrel
          by_cases hlt : k < tl
          · have hkT : k < T.length := by have := HTL.out; omega
            obtain ⟨g', off', e', hg', hc'⟩ := HI2.out k hkT
            simp only [Option.some.injEq, Addr.mk.injEq, and_true] at e'
            obtain ⟨rfl, rfl⟩ := e'
            have hcell := (World.cell?_of_block (a := ⟨g0, off0 + k, none⟩) (HB5.out.block g0 hg0)).trans hc'
            have hbnd := HS.out T[k] (List.getElem_mem hkT)
            have htk : T.take (k + 1) = T.take k ++ [T[k]] := List.take_succ_eq_append_getElem hkT
            have hz := szS_app (T.take k) T[k]
            have hlg := lg_app m (T.take k) T[k]
            rw [← htk] at hz hlg
            have hle := szS_le 140737488355328 (T.take k) (fun s hs => HS.out s (List.mem_of_mem_take hs))
            have hle2 : szS (T.take k) ≤ 1000 * 140737488355339 := Nat.le_trans hle (Nat.mul_le_mul (by rw [List.length_take]; omega) (Nat.le_refl _))
            generalize T[k] = s at *
            generalize szS (T.take k) = a at *
            generalize lg m (T.take k) = b at *
            have HZ := Lib.hid hz
            have HLG := Lib.hid hlg
            clear hz hlg hle htk hc' hg'
            cases b
            · go_wp2
              exact ⟨⟨k + 1, by omega, by rw [HZ.out]; congr 1; omega, by rw [HLG.out]; rfl, by go_num, trivial⟩, by simp [intOf]; omega⟩
            · go_wp2
              exact ⟨⟨k + 1, by omega, by rw [HZ.out]; congr 1; omega, by rw [HLG.out]; rfl, by go_num, trivial⟩, by simp [intOf]; omega⟩
          · obtain rfl : k = tl := by omega
            have htk : T.take k = T := by rw [← HTL.out]; exact List.take_length
            have hle := szS_le 140737488355328 T (fun s hs => HS.out s hs)
            have hle2 : szS T ≤ 1000 * 140737488355339 := Nat.le_trans hle (Nat.mul_le_mul (by rw [HTL.out]; omega) (Nat.le_refl _))
            have hla := HLA.out
            unfold Last at hla
            rw [htk]
            obtain ⟨Z, hZ⟩ : ∃ Z, 4 + szS T = Z := ⟨_, rfl⟩
            obtain ⟨b, hb⟩ : ∃ b, lg m T = b := ⟨_, rfl⟩
            have hZ2 : Z ≤ 140737488355339004 := by omega
            rw [hZ, hb] at hla
            rw [hZ, hb]
            clear hle hle2 hZ hb htk HLA
            cases b
            · rw [if_neg (by decide)] at hla
              by_cases hbig : 65536 < Z
              · rw [if_pos hbig] at hla
                subst hla
                go_wp2
                go_ret
                exact ⟨rfl, HB5.out⟩
              · rw [if_neg hbig] at hla
                obtain ⟨rfl, hsz⟩ := hla
                go_wp2
                go_ret
                exact ⟨by first | rfl | simp [hsz], HB5.out⟩
            · rw [if_pos rfl] at hla
              subst hla
              go_wp2
              go_ret
              exact ⟨rfl, HB5.out⟩
    · go_wp2_with fail
      rw [show L.length = tl from by omega]
      refine (digits_any m hm0 hm1 _).mono ?_
      rintro r w2 ⟨D, rfl, hD, hB2⟩
      have HD := Lib.hid hD
      have HB2 := Lib.hid (HB1.out.trans (hB2.mono HB1.out.size))
      have hlen := hD.len
      clear hB2 hD
      have hcat := cat_form D
      obtain ⟨F, hF⟩ : ∃ F : ByteArray, F = ⟨(42 :: 40 :: 111 :: (D ++ [41])).toArray⟩ := ⟨_, rfl⟩
      rw [← hF] at hcat
      have hs1 : (9223372036854775807 < 3 + D.length) = False := by simp; omega
      have hs2 : (9223372036854775807 < 3 + D.length + 1) = False := by simp; omega
      have HF := Lib.hid hF
      have HH1 := Lib.hid htl1
      clear hF htl1
      by_cases ht0 : tl = 0
      · have hT0 : T = [] := List.eq_nil_of_length_eq_zero (by rw [HTL.out]; exact ht0)
        clear htle
        subst hT0 ht0
        have hrun : ∀ ty, (Builtin.append_ #[26, 26] ty #[.slice (some ⟨w2.heap.size + 1, 0, none⟩) 0 0, .slice ao 0 cap]).run Tryd.prog ((w2.alloc (.cells #[.int .i64 0] 3)).alloc (.cells #[] 9)) = .ok (.slice (some ⟨w2.heap.size + 1, 0, none⟩) 0 0) ((w2.alloc (.cells #[.int .i64 0] 3)).alloc (.cells #[] 9)) := fun ty => by
          obtain ⟨i3, hi3, hz30, hz31, hz32⟩ := info_parts info9
          have hsrc : Src Tryd.prog i3.size 26 (.slice ao 0 cap) 0 [] ((w2.alloc (.cells #[.int .i64 0] 3)).alloc (.cells #[] 9)) := by
            cases ao with
            | none => exact Src.ofNil _ Tryd.underlying26 cap
            | some a => exact Src.ofSlice _ Tryd.underlying26 a 0 cap [] (by simp) (by simp) (by simp)
          exact run_append_room_src (P := Tryd.prog) _ 26 26 ty 9 i3 Tryd.underlying26 hi3 (w2.heap.size + 1) 0 0 0 (.slice ao 0 cap) 0 [] hsrc (by omega) (by simp) (by simp)
        have HR := Lib.hid hrun
        clear hrun
        go_wp2_with (at_builtin; refine Lib.wpList_append_run _ rfl (.tmp 32) (.tmp 33) 26 26 rfl _ _ rfl rfl _ _ (HR.out _) ?_)
        have hB3 : Below w.heap.size w ((w2.alloc (.cells #[.int .i64 0] 3)).alloc (.cells #[] 9)) := (HB2.out.alloc HB2.out.size _).alloc (by simp; have := HB2.out.size; omega) _
        have hN3 : ((w2.alloc (.cells #[.int .i64 0] 3)).alloc (.cells #[] 9)).cell? ⟨w2.heap.size, 0, none⟩ = some (.int .i64 0) := (World.cell?_alloc_past _ _ _ (by simp)).trans (by rw [cell_of_row _ _ _ _ _ _ (heap_alloc_new w2 _)]; rfl)
        have hw23 : w2.heap.size < ((w2.alloc (.cells #[.int .i64 0] 3)).alloc (.cells #[] 9)).heap.size := by simp; omega
        generalize (w2.alloc (.cells #[.int .i64 0] 3)).alloc (.cells #[] 9) = w3 at *
        have HN3 := Lib.hid hN3
        have hB4 : Below w.heap.size w (w3.alloc (.cells #[.slice (some ⟨w2.heap.size, 0, none⟩) 1 1, .slice (some ⟨w2.heap.size + 1, 0, none⟩) 0 0] 31)) := hB3.alloc hB3.size _
        obtain ⟨x, hx⟩ : ∃ x, encO (42 :: 40 :: 111 :: (D ++ [41])) [(0 : Int)] [] = x := ⟨_, rfl⟩
        have henc := encode_any (42 :: 40 :: 111 :: (D ++ [41])) [(0 : Int)] [] (some ⟨w2.heap.size, 0, none⟩) 1 (some ⟨w2.heap.size + 1, 0, none⟩) 0 (w3.alloc (.cells #[.slice (some ⟨w2.heap.size, 0, none⟩) 1 1, .slice (some ⟨w2.heap.size + 1, 0, none⟩) 0 0] 31))
          (fun j hj => ⟨w2.heap.size, 0, rfl, by simp; omega, by
            obtain rfl : j = 0 := by simp at hj; omega
            exact (World.cell?_alloc_past _ _ _ hw23).trans HN3.out⟩)
          (fun j hj => absurd hj (by simp))
          (by simp) (by simp) (by unfold worth; simp) x hx
        rw [← HF.out] at henc
        have hout := enc_counts HD.out [] (by simp)
        rw [show ((([] : List ByteArray).length : Nat) : Int) = 0 from rfl, hx] at hout
        have HE := Lib.hid henc
        have HOUT := Lib.hid hout
        have HB4 := Lib.hid hB4
        have HX := Lib.hid hx
        clear henc hout hB4 hx hB3 hN3 hs1 hs2 hcat
        refine HE.out.mono ?_
        rintro r w5 ⟨hB5, hr⟩
        have HB5 := Lib.hid (HB4.out.trans (hB5.mono HB4.out.size))
        clear hB5
        obtain ⟨sx, ex, hsx⟩ : ∃ (sx : ByteArray) (ex : Int), r = .returned (.tuple #[.string sx, .int .i64 ex]) ∧ Last [] m sx ex := last_of hr HOUT.out
        obtain ⟨rfl, hlast⟩ := hsx
        have HLA := Lib.hid hlast
        clear hlast hr
        have hla := HLA.out
        unfold Last at hla
        rw [if_neg (by simp [lg]), if_neg (by simp [szS])] at hla
        obtain ⟨rfl, hsz⟩ := hla
        simp only [szS] at hsz
        go_wp2_with fail
        go_loopw [9, 10, 11] (fun z l i wr => z = .int .i64 4 ∧ l = .bool false ∧ i = .int .i64 0 ∧ w5 = wr) (fun _ _ i _ => 0)
        case atStart => exact ⟨rfl, rfl, rfl, rfl⟩
        case round =>
          obtain ⟨rfl, rfl, rfl, rfl⟩ := hrel
          go_wp2
          go_ret
          exact ⟨by first | rfl | simp [hsz], HB5.out⟩
      · obtain ⟨g0, off0, rfl, hg0, _⟩ := HI2.out 0 (by have := HTL.out; omega)
        have hg2 : g0 < w2.heap.size := Nat.lt_of_lt_of_le hg0 HB2.out.size
        have hnews : ∀ j u, (T.map Value.string)[j]? = some u → ((w2.alloc (.cells #[.int .i64 (tl : Int)] 3)).alloc (.cells #[] 9)).cell? ((⟨g0, off0, none⟩ : Addr).add j) = some u := fun j u hu => by
          have hj : j < T.length := by
            rcases Nat.lt_or_ge j T.length with h | h
            · exact h
            · rw [List.getElem?_eq_none (by simpa using h)] at hu; cases hu
          obtain ⟨g', off', e, _, hc⟩ := HI2.out j hj
          simp only [Option.some.injEq, Addr.mk.injEq, and_true] at e
          obtain ⟨rfl, rfl⟩ := e
          rw [List.getElem?_map, List.getElem?_eq_getElem hj] at hu
          simp only [Option.map_some, Option.some.injEq] at hu
          rw [← hu, show (⟨g0, off0, none⟩ : Addr).add j = ⟨g0, off0 + j, none⟩ from by unfold Addr.add; split <;> simp_all]
          rw [World.cell?_alloc_past _ _ _ (by simp; omega), World.cell?_alloc_past _ _ _ hg2]
          exact (World.cell?_of_block (a := ⟨g0, off0 + j, none⟩) (HB2.out.block g0 hg0)).trans hc
        have hown0 : ((w2.alloc (.cells #[.int .i64 (tl : Int)] 3)).alloc (.cells #[] 9)).ownsRow (w2.heap.size + 1) 9 1 (.slice (some ⟨w2.heap.size + 1, 0, none⟩) 0 0) 0 [] :=
          ⟨rfl, .inr ⟨w2.heap.size + 1, 0, #[], rfl, Nat.le_refl _, by have := heap_alloc_new (w2.alloc (.cells #[.int .i64 (tl : Int)] 3)) (.cells #[] 9); simpa using this, Nat.le_refl _, by decide, rfl, rfl⟩⟩
        have HNW := Lib.hid hnews
        have HO0 := Lib.hid hown0
        clear hnews hown0
        obtain ⟨i3, hi3, hz30, hz31, hz32⟩ := info_parts info9
        go_wp2_with (at_builtin; refine wpList_append_lies _ rfl (.tmp 32) (.tmp 33) 26 rfl (w2.heap.size + 1) 9 i3 _ 1 16 Tryd.underlying26 hi3 hz30 hz31 hz32 rfl (by omega) (.slice (some ⟨w2.heap.size + 1, 0, none⟩) 0 0) 0 [] rfl HO0.out ⟨g0, off0, none⟩ tl cap (T.map Value.string) (by rfl) (by rw [List.length_map, HTL.out, Nat.mul_one]) HNW.out (by simp [Value.oneCell']) (by omega) (by unfold maxLen; omega) (by omega) (by simp) (w2.heap.size + 2) (by simp) ?_; intro g2 cap2 w3 hown1 hgrow hat hglt; have HO1 := Lib.hid hown1; have HG1 := Lib.hid hgrow; clear hown1 hgrow hat)
        have hB3 : Below w.heap.size w w3 := (((HB2.out.alloc HB2.out.size _).alloc (by simp; have := HB2.out.size; omega) _)).trans (grown_low HG1.out (by simp; have := HB2.out.size; omega) (fun k e => by simp [Value.ownBlock] at e; have := HB2.out.size; omega))
        have hN3 : w3.cell? ⟨w2.heap.size, 0, none⟩ = some (.int .i64 (tl : Int)) := (HG1.out.cell_far ⟨w2.heap.size, 0, none⟩ (by simp; omega) (by simp [Value.ownBlock])).trans ((World.cell?_alloc_past _ _ _ (by simp)).trans (by rw [cell_of_row _ _ _ _ _ _ (heap_alloc_new w2 _)]; rfl))
        have hw23 : w2.heap.size < w3.heap.size := by have := (grown_low (B := 0) HG1.out (Nat.zero_le _) (fun _ _ => Nat.zero_le _)).size; simp at this; omega
        have hT3 : ∀ j (hj : j < T.length), w3.cell? ⟨g2, j, none⟩ = some (.string T[j]) := fun j hj => cellAt0 HO1.out j _ (by simp [List.getElem?_eq_getElem hj])
        have hcap2 : tl ≤ cap2 ∧ cap2 ≤ 9223372036854775807 := by
          rcases HO1.out.2 with ⟨e, _⟩ | ⟨g', c', cur, e, _, _, h1, h2, _⟩
          · cases e
          · injection e with _ _ e; subst e; exact ⟨by omega, h2⟩
        have HN3 := Lib.hid hN3
        have HT3 := Lib.hid hT3
        have hB4 : Below w.heap.size w (w3.alloc (.cells #[.slice (some ⟨w2.heap.size, 0, none⟩) 1 1, .slice (some ⟨g2, 0, none⟩) tl cap2] 31)) := hB3.alloc hB3.size _
        obtain ⟨x, hx⟩ : ∃ x, encO (42 :: 40 :: 111 :: (D ++ [41])) [(tl : Int)] T = x := ⟨_, rfl⟩
        have henc := encode_any (42 :: 40 :: 111 :: (D ++ [41])) [(tl : Int)] T (some ⟨w2.heap.size, 0, none⟩) 1 (some ⟨g2, 0, none⟩) cap2 (w3.alloc (.cells #[.slice (some ⟨w2.heap.size, 0, none⟩) 1 1, .slice (some ⟨g2, 0, none⟩) tl cap2] 31))
          (fun j hj => ⟨w2.heap.size, 0, rfl, by simp; omega, by
            obtain rfl : j = 0 := by simp at hj; omega
            exact (World.cell?_alloc_past _ _ _ hw23).trans HN3.out⟩)
          (fun j hj => ⟨g2, 0, rfl, by simp; omega, by rw [Nat.zero_add]; exact (World.cell?_alloc_past _ _ _ hglt).trans (HT3.out j hj)⟩)
          (by simp) (by rw [HTL.out]; exact hcap2) (by unfold worth; rw [HTL.out]; simp; omega) x hx
        rw [← HF.out, HTL.out] at henc
        have hout := enc_counts HD.out T (by rw [HTL.out]; exact htle)
        rw [HTL.out, hx] at hout
        have HE := Lib.hid henc
        have HOUT := Lib.hid hout
        have HB4 := Lib.hid hB4
        have HX := Lib.hid hx
        clear henc hout hB4 hx hB3 hN3 hT3 hcap2 hs1 hs2 hcat
        refine HE.out.mono ?_
        rintro r w5 ⟨hB5, hr⟩
        have HB5 := Lib.hid (HB4.out.trans (hB5.mono HB4.out.size))
        clear hB5
        obtain ⟨sx, ex, hsx⟩ : ∃ (sx : ByteArray) (ex : Int), r = .returned (.tuple #[.string sx, .int .i64 ex]) ∧ Last T m sx ex := last_of hr HOUT.out
        obtain ⟨rfl, hlast⟩ := hsx
        have HLA := Lib.hid hlast
        clear hlast hr
        go_wp2_with fail
        go_loopw [9, 10, 11] (fun z l i wr => ∃ k : Nat, k ≤ tl ∧ z = .int .i64 ((4 + szS (T.take k) : Nat) : Int) ∧ l = .bool (lg m (T.take k)) ∧ i = .int .i64 k ∧ w5 = wr) (fun _ _ i _ => tl - (intOf i).toNat)
        case atStart => exact ⟨0, Nat.zero_le _, rfl, rfl, rfl, rfl⟩
        case round =>
          obtain ⟨k, hk, rfl, rfl, rfl, rfl⟩ := hrel
          by_cases hlt : k < tl
          · have hkT : k < T.length := by have := HTL.out; omega
            obtain ⟨g', off', e', hg', hc'⟩ := HI2.out k hkT
            simp only [Option.some.injEq, Addr.mk.injEq, and_true] at e'
            obtain ⟨rfl, rfl⟩ := e'
            have hcell := (World.cell?_of_block (a := ⟨g0, off0 + k, none⟩) (HB5.out.block g0 hg0)).trans hc'
            have hbnd := HS.out T[k] (List.getElem_mem hkT)
            have htk : T.take (k + 1) = T.take k ++ [T[k]] := List.take_succ_eq_append_getElem hkT
            have hz := szS_app (T.take k) T[k]
            have hlg := lg_app m (T.take k) T[k]
            rw [← htk] at hz hlg
            have hle := szS_le 140737488355328 (T.take k) (fun s hs => HS.out s (List.mem_of_mem_take hs))
            have hle2 : szS (T.take k) ≤ 1000 * 140737488355339 := Nat.le_trans hle (Nat.mul_le_mul (by rw [List.length_take]; omega) (Nat.le_refl _))
            generalize T[k] = s at *
            generalize szS (T.take k) = a at *
            generalize lg m (T.take k) = b at *
            have HZ := Lib.hid hz
            have HLG := Lib.hid hlg
            clear hz hlg hle htk hc' hg'
            cases b
            · go_wp2
              exact ⟨⟨k + 1, by omega, by rw [HZ.out]; congr 1; omega, by rw [HLG.out]; rfl, by go_num, trivial⟩, by simp [intOf]; omega⟩
            · go_wp2
              exact ⟨⟨k + 1, by omega, by rw [HZ.out]; congr 1; omega, by rw [HLG.out]; rfl, by go_num, trivial⟩, by simp [intOf]; omega⟩
          · obtain rfl : k = tl := by omega
            have htk : T.take k = T := by rw [← HTL.out]; exact List.take_length
            have hle := szS_le 140737488355328 T (fun s hs => HS.out s hs)
            have hle2 : szS T ≤ 1000 * 140737488355339 := Nat.le_trans hle (Nat.mul_le_mul (by rw [HTL.out]; omega) (Nat.le_refl _))
            have hla := HLA.out
            unfold Last at hla
            rw [htk]
            obtain ⟨Z, hZ⟩ : ∃ Z, 4 + szS T = Z := ⟨_, rfl⟩
            obtain ⟨b, hb⟩ : ∃ b, lg m T = b := ⟨_, rfl⟩
            have hZ2 : Z ≤ 140737488355339004 := by omega
            rw [hZ, hb] at hla
            rw [hZ, hb]
            clear hle hle2 hZ hb htk HLA
            cases b
            · rw [if_neg (by decide)] at hla
              by_cases hbig : 65536 < Z
              · rw [if_pos hbig] at hla
                subst hla
                go_wp2
                go_ret
                exact ⟨rfl, HB5.out⟩
              · rw [if_neg hbig] at hla
                obtain ⟨rfl, hsz⟩ := hla
                go_wp2
                go_ret
                exact ⟨by first | rfl | simp [hsz], HB5.out⟩
            · rw [if_pos rfl] at hla
              subst hla
              go_wp2
              go_ret
              exact ⟨rfl, HB5.out⟩
end Go.Proofs.YtfblnbcdnokdnaaDoor
