/-
  SchemaRows' walk: it answers true, and makes new blocks alone. Its conditions: both lists lie in memory, and each has at most 1048576 things.
-/
import Derived.Test.YtakfpfnaogdmlaaDoorSz
import Derived.Test.YtakfpfnaogdmlaaDoorCc
import Derived.Test.YtakfpfnaogdmlaaDoorFe
import Derived.Test.YtakfpfnaogdmlaaDoorSv
import Derived.Deep.DeepCutAuto
import Derived.Deep.RegionHeld3
namespace Go.Proofs.YtakfpfnaogdmlaaDoor
open Go.RowKit Sch
/-- The two forms in their block, and nothing below w0's blocks has turned. -/
structure Kr (w0 : World) (X : Nat) (FA FB : ByteArray) (w : World) : Prop where
  x : w.heap[X]? = some (.cells #[.string FA, .string FB] 22 (0, 0))
  low : Below w0.heap.size w0 w
  hX : w0.heap.size ≤ X
theorem Kr.step {w0 w w' : World} {X : Nat} {FA FB : ByteArray} (h : Kr w0 X FA FB w) (hb : Below w.heap.size w w') : Kr w0 X FA FB w' :=
  ⟨(hb.block X (Array.getElem?_eq_some_iff.1 h.x).1).trans h.x, h.low.trans (hb.mono h.low.size), h.hX⟩
theorem Kr.cells {w0 w : World} {X : Nat} {FA FB : ByteArray} (h : Kr w0 X FA FB w) : w.cell? ⟨X, 0, none⟩ = some (.string FA) ∧ w.cell? ⟨X, 1, none⟩ = some (.string FB) := by
  refine ⟨?_, ?_⟩ <;> (rw [cell_of_row w X _ _ _ _ h.x]; rfl)
theorem Kr.drew {w0 w : World} {X : Nat} {FA FB : ByteArray} (h : Kr w0 X FA FB w) : Kr w0 X FA FB w.drew := ⟨h.x, ⟨h.low.os, h.low.tape, h.low.output, h.low.size, h.low.block⟩, h.hX⟩
theorem cat_bytes (a b : List UInt8) : (⟨a.toArray⟩ : ByteArray) ++ ⟨b.toArray⟩ = ⟨(a ++ b).toArray⟩ := by
  apply ByteArray.ext
  rw [ByteArray.data_append]
  simp
theorem enc_two {f : List UInt8} {N : List Int} {T : List ByteArray} {x : Except Int (List UInt8)} (h : encO f N T = x) : encE x ≠ 0 ∨ (encE x = 0 ∧ ∃ b : List UInt8, x = .ok b ∧ encS x = ⟨b.toArray⟩ ∧ b.length ≤ 65536) := by
  cases x with
  | error e => exact .inl (enc_err h)
  | ok b =>
    refine .inr ⟨rfl, b, rfl, rfl, ?_⟩
    unfold encO at h
    split at h
    · cases h
    · split at h
      · cases h
      · split at h
        · cases h
        · injection h with h
          subst h
          omega
theorem enc_m (S : ByteArray) (t : List UInt8) (hS : S = ⟨t.toArray⟩) (N : List Int) (T : List ByteArray) (p q : Nat) (hp : N.length = p) (hq : T.length = q) (aN : Option Addr) (cN : Nat) (aT : Option Addr) (cT : Nat) (w : World) (hN : A.IntsAt w aN N) (hT : B.SsAt w aT T) (hcn : N.length ≤ cN ∧ cN ≤ 9223372036854775807) (hct : T.length ≤ cT ∧ cT ≤ 9223372036854775807) (hK : N.length + T.length ≤ 4000000) (x : Except Int (List UInt8)) (hx : encO t N T = x) :
    Calls Tryd.prog 8 #[.string S, .agg #[.slice aN p cN, .slice aT q cT]] w fun r w' => r = .returned (.tuple #[.string (encS x), .int .i64 (encE x)]) ∧ Below w.heap.size w w' := by
  subst hp hq
  exact enc_u S t hS N T aN cN aT cT w hN hT hcn hct hK x hx
set_option maxRecDepth 100000 in
set_option maxHeartbeats 40000000 in
theorem rows_walk (fa fb : List UInt8) (n : List Int) (t : List ByteArray) (aN aT : Option Addr) (cN cT : Nat) (w : World) (hN : A.IntsAt w aN n) (hT : B.SsAt w aT t) (hcn : n.length ≤ cN ∧ cN ≤ 9223372036854775807) (hct : t.length ≤ cT ∧ cT ≤ 9223372036854775807) (hln : n.length ≤ 1048576) (hlt : t.length ≤ 1048576) (hlf : fa.length ≤ 281474976710656 ∧ fb.length ≤ 281474976710656) :
    Calls Tryd.prog 3 #[.agg #[.string ⟨fa.toArray⟩, .string ⟨fb.toArray⟩], .slice aN n.length cN, .slice aT t.length cT] w fun e w' => e = .returned (.bool true) ∧ Below w.heap.size w w' := by
  have HIN := Lib.hid hN
  have HIT := Lib.hid hT
  have HCN := Lib.hid hcn
  have HCT := Lib.hid hct
  have HLN := Lib.hid hln
  have HLT := Lib.hid hlt
  have HLF := Lib.hid hlf
  clear hlf hN hT hcn hct hln hlt
  obtain ⟨FA, hFA⟩ : ∃ S : ByteArray, S = ⟨fa.toArray⟩ := ⟨_, rfl⟩
  obtain ⟨FB, hFB⟩ : ∃ S : ByteArray, S = ⟨fb.toArray⟩ := ⟨_, rfl⟩
  have hsa : FA.size = fa.length := by rw [hFA]; show fa.toArray.size = _; simp
  have hsb : FB.size = fb.length := by rw [hFB]; show fb.toArray.size = _; simp
  rw [← hFA, ← hFB]
  have HFA := Lib.hid hFA
  have HFB := Lib.hid hFB
  have HSA := Lib.hid hsa
  have HSB := Lib.hid hsb
  clear hFA hFB hsa hsb
  have HK0 := Lib.hid (show Kr w w.heap.size FA FB (w.alloc (.cells #[.string FA, .string FB] 22)) from ⟨heap_alloc_new w _, (Below.refl _ w).alloc (Nat.le_refl _) _, Nat.le_refl _⟩)
  go_enter Tryd.func3, Tryd.ntmps3
  go_wp2_with fail
  generalize w.alloc (.cells #[.string FA, .string FB] 22) = W at *
  refine (speaks2_any W).mono ?_
  rintro e w1 ⟨rfl, hb⟩
  have HK1 := Lib.hid (HK0.out.step hb)
  clear hb HK0
  generalize w.heap.size = X at *
  obtain ⟨c0, c1⟩ := HK1.out.cells
  go_wp2_with fail
  have hck := check_any fa w1
  rw [← HFA.out] at hck
  refine hck.mono ?_
  clear hck
  rintro e w2 ⟨rfl, hb⟩
  have HK2 := Lib.hid (HK1.out.step hb)
  clear hb c0 c1 HK1
  obtain ⟨c0, c1⟩ := HK2.out.cells
  generalize (form num5 fa).isSome = b1 at *
  cases b1 with
  | false =>
    go_wp2
    go_ret
    exact ⟨rfl, HK2.out.low⟩
  | true =>
  go_wp2_with fail
  have hck := check_any fb w2
  rw [← HFB.out] at hck
  refine hck.mono ?_
  clear hck
  rintro e w3 ⟨rfl, hb⟩
  have HK3 := Lib.hid (HK2.out.step hb)
  clear hb c0 c1 HK2
  obtain ⟨c0, c1⟩ := HK3.out.cells
  generalize (form num5 fb).isSome = b2 at *
  cases b2 with
  | false =>
    go_wp2
    go_ret
    exact ⟨rfl, HK3.out.low⟩
  | true =>
  by_cases hbig : 1000 < FA.size + FB.size
  · have hs : decide ((1000 : Int) < (FA.size : Int) + (FB.size : Int)) = true := decide_eq_true (by omega)
    have hw : IntKind.i64.wrap ((FA.size : Int) + (FB.size : Int)) = (FA.size : Int) + (FB.size : Int) := IntWalk.i64_in _ (by have := HLF.out; have := HSA.out; have := HSB.out; omega)
    go_wp2
    go_ret
    exact ⟨rfl, HK3.out.low⟩
  · have hs : decide ((1000 : Int) < (FA.size : Int) + (FB.size : Int)) = false := decide_eq_false (by omega)
    have hw : IntKind.i64.wrap ((FA.size : Int) + (FB.size : Int)) = (FA.size : Int) + (FB.size : Int) := IntWalk.i64_in _ (by omega)
    have HBIG := Lib.hid (show fa.length + fb.length ≤ 1000 by have := HSA.out; have := HSB.out; omega)
    go_wp2_with fail
    clear c0 c1 hs hw hbig
    go_loopw [7, 8, 9, 10, 11, 12] (fun i _ _ _ _ _ wr => ∃ k : Nat, k ≤ n.length + 1 ∧ i = .int .i64 k ∧ Kr w X FA FB wr) (fun i _ _ _ _ _ _ => n.length + 2 - (intOf i).toNat)
    case atStart => exact ⟨0, by omega, rfl, HK3.out⟩
    case round =>
      obtain ⟨k, hk, rfl, hkr⟩ := hrel
      have HKR := Lib.hid hkr
      clear hkr HK3
      by_cases hkn : k ≤ n.length
      · have hd : decide ((k : Int) ≤ (n.length : Int)) = true := decide_eq_true (by omega)
        go_wp2_with fail
        go_loopw [8, 9, 10, 11, 12] (fun i _ _ _ _ wr => ∃ j : Nat, j ≤ t.length + 1 ∧ j ≤ 9 ∧ i = .int .i64 j ∧ Kr w X FA FB wr) (fun i _ _ _ _ _ => 10 - (intOf i).toNat)
        case atStart => exact ⟨0, by omega, by omega, rfl, HKR.out⟩
        case round =>
          obtain ⟨j, hj, hj9, rfl, hkr⟩ := hrel
          have HKJ := Lib.hid hkr
          clear hkr HKR
          by_cases hjt : j ≤ t.length
          · have hd2 : decide ((j : Int) ≤ (t.length : Int)) = true := decide_eq_true (by omega)
            by_cases hj8 : j < 9
            · have hd3 : decide ((j : Int) < 9) = true := decide_eq_true (by omega)
              obtain ⟨x1, hx1⟩ : ∃ x, encO fa (n.take k) (t.take j) = x := ⟨_, rfl⟩
              obtain ⟨x2, hx2⟩ : ∃ x, encO fb (n.drop k) (t.drop j) = x := ⟨_, rfl⟩
              have HX1 := Lib.hid hx1
              have HX2 := Lib.hid hx2
              clear hx1 hx2
              go_upto_region 11 with (fail)
              go_cut [9, 10] from 43 to 125 (fun s e wx => s = .string (encS x1) ∧ e = .int .i64 (encE x1) ∧ Kr w X FA FB wx)
              case first =>
                have HIQ : A.IntsAt wr aN n := HIN.out.below HKJ.out.low
                have HSQ : B.SsAt wr aT t := HIT.out.below HKJ.out.low
                have HKJ0 := HKJ.out
                have hlk : (n.take k).length = k := by rw [List.length_take]; omega
                have hlj : (t.take j).length = j := by rw [List.length_take]; omega
                have hs3 := sl_take3 aN n.length cN k (by have := HCN.out.1; omega)
                have hs9 := sl_take9 aT t.length cT j (by have := HCT.out.1; omega)
                refine wp_region_noPanic ?_
                have HKd := HKJ0.drew
                have HId := Lib.hid (show A.IntsAt wr.drew aN n from fun i hi => HIQ i hi)
                have HSd := Lib.hid (show B.SsAt wr.drew aT t from fun i hi => HSQ i hi)
                refine wp_region_till (C := fun w' => w'.cell? ⟨X, 0, none⟩ = some (.string FA)) (st := 13) (by kernel_rfl) ?_
                clear HIQ HSQ HKJ0
                generalize wr.drew = wd at *
                have hb0 := Below.refl wd.heap.size wd
                refine wpAnyT_free (i := 0) (oi := { dst := some 54, op := Op.indexAddr 22 (Operand.tmp 3) (Operand.const (Value.int IntKind.i64 0)), type := 0, pos := "law.go:84", after := #[], guard := none }) (v := .pointer (some ⟨X, 0, none⟩)) rfl (by kernel_rfl) (by kernel_rfl) (by kernel_rfl) (fun _ _ _ h => h) rfl (Or.inl ⟨by rfl, ?_⟩) (fun _ => ((HKd.step hb0)).cells.1) ?_
                · intro wz _; first | (go_simp; done) | (go_simp; with_reducible rfl) | (go_simp; simp [*]; done)
                try simp only [Act.put, List.setIfInBounds_toArray, List.set_cons_zero, List.set_cons_succ]
                refine wpAnyT_take (i := 1) (oi := { dst := some 55, op := Op.load 9 (Operand.tmp 54), type := 9, pos := "law.go:84", after := #[{ on := 0, ground := Ground.data }], guard := none }) (v := .string FA) rfl (by kernel_rfl) (by kernel_rfl) (by kernel_rfl) (fun _ _ _ h => h) rfl (by kernel_rfl) (by kernel_rfl) (Or.inl ⟨by rfl, ?_⟩) (((HKd.step hb0)).cells.1) ?_
                · intro wz hSw; (try dsimp only at hSw); first | (go_simp; simp [hSw]; done) | (go_simp; simp [hSw.1]; done) | (go_simp; simp [hSw.2]; done) | (go_simp; done)
                try simp only [Act.put, List.setIfInBounds_toArray, List.set_cons_zero, List.set_cons_succ]
                refine wpAnyT_free (i := 3) (oi := { dst := some 57, op := Op.move (Operand.tmp 1), type := 23, pos := "law.go:84", after := #[], guard := none }) (v := .slice aN n.length cN) rfl (by kernel_rfl) (by kernel_rfl) (by kernel_rfl) (fun _ _ _ h => h) rfl (Or.inl ⟨by rfl, ?_⟩) (fun _ => ((HKd.step hb0)).cells.1) ?_
                · intro wz _; first | (go_simp; done) | (go_simp; with_reducible rfl) | (go_simp; simp [*]; done)
                try simp only [Act.put, List.setIfInBounds_toArray, List.set_cons_zero, List.set_cons_succ]
                refine wpAnyT_free (i := 4) (oi := { dst := some 58, op := Op.move (Operand.tmp 7), type := 3, pos := "law.go:84", after := #[], guard := none }) (v := .int .i64 k) rfl (by kernel_rfl) (by kernel_rfl) (by kernel_rfl) (fun _ _ _ h => h) rfl (Or.inl ⟨by rfl, ?_⟩) (fun _ => ((HKd.step hb0)).cells.1) ?_
                · intro wz _; first | (go_simp; done) | (go_simp; with_reducible rfl) | (go_simp; simp [*]; done)
                try simp only [Act.put, List.setIfInBounds_toArray, List.set_cons_zero, List.set_cons_succ]
                refine wpAnyT_free (i := 5) (oi := { dst := some 59, op := Op.slice 23 (Operand.tmp 57) none (some (Operand.tmp 58)) none, type := 23, pos := "law.go:84", after := #[{ on := 3, ground := Ground.data }, { on := 4, ground := Ground.data }], guard := none }) (v := .slice aN k cN) rfl (by kernel_rfl) (by kernel_rfl) (by kernel_rfl) (fun _ _ _ h => h) rfl (Or.inl ⟨by rfl, ?_⟩) (fun _ => ((HKd.step hb0)).cells.1) ?_
                · intro wz _; first | (go_simp; done) | (go_simp; with_reducible rfl) | (go_simp; simp [*]; done)
                try simp only [Act.put, List.setIfInBounds_toArray, List.set_cons_zero, List.set_cons_succ]
                refine wpAnyT_free (i := 8) (oi := { dst := some 62, op := Op.move (Operand.tmp 2), type := 24, pos := "law.go:84", after := #[], guard := none }) (v := .slice aT t.length cT) rfl (by kernel_rfl) (by kernel_rfl) (by kernel_rfl) (fun _ _ _ h => h) rfl (Or.inl ⟨by rfl, ?_⟩) (fun _ => ((HKd.step hb0)).cells.1) ?_
                · intro wz _; first | (go_simp; done) | (go_simp; with_reducible rfl) | (go_simp; simp [*]; done)
                try simp only [Act.put, List.setIfInBounds_toArray, List.set_cons_zero, List.set_cons_succ]
                refine wpAnyT_free (i := 9) (oi := { dst := some 63, op := Op.move (Operand.tmp 8), type := 3, pos := "law.go:84", after := #[], guard := none }) (v := .int .i64 j) rfl (by kernel_rfl) (by kernel_rfl) (by kernel_rfl) (fun _ _ _ h => h) rfl (Or.inl ⟨by rfl, ?_⟩) (fun _ => ((HKd.step hb0)).cells.1) ?_
                · intro wz _; first | (go_simp; done) | (go_simp; with_reducible rfl) | (go_simp; simp [*]; done)
                try simp only [Act.put, List.setIfInBounds_toArray, List.set_cons_zero, List.set_cons_succ]
                refine wpAnyT_free (i := 10) (oi := { dst := some 64, op := Op.slice 24 (Operand.tmp 62) none (some (Operand.tmp 63)) none, type := 24, pos := "law.go:84", after := #[{ on := 8, ground := Ground.data }, { on := 9, ground := Ground.data }], guard := none }) (v := .slice aT j cT) rfl (by kernel_rfl) (by kernel_rfl) (by kernel_rfl) (fun _ _ _ h => h) rfl (Or.inl ⟨by rfl, ?_⟩) (fun _ => ((HKd.step hb0)).cells.1) ?_
                · intro wz _; first | (go_simp; done) | (go_simp; with_reducible rfl) | (go_simp; simp [*]; done)
                try simp only [Act.put, List.setIfInBounds_toArray, List.set_cons_zero, List.set_cons_succ]
                refine wpAnyT_ready (rs := [2, 7]) (by kernel_rfl) (by simp) ?_
                refine AllReadyT.cons (o := { dst := some 56, op := Op.buildSlice 23 0 #[], type := 23, pos := "law.go:84", after := #[], guard := none }) rfl (fun K hK => ?_) ?_
                · go_simp
                  have hb1 := hb0.alloc hb0.size (.cells #[] 3)
                  have hx3 := heap_alloc_new wd (.cells #[] 3)
                  have hshb1 := hb0.size
                  refine hK.out _ _ (fun _ => ((HKd.step hb1)).cells.1) ?_
                  clear hK K
                  generalize wd.alloc (.cells #[] 3) = wa2 at *
                  try simp only [Act.put, List.setIfInBounds_toArray, List.set_cons_zero, List.set_cons_succ]
                  refine wpAnyT_ready (rs := [6, 7]) (by kernel_rfl) (by simp) ?_
                  refine AllReadyT.cons (o := { dst := some 60, op := Op.call { callee := Callee.builtin Builtin.append, args := #[Operand.tmp 56, Operand.tmp 59], argTypes := #[23, 23] }, type := 23, pos := "law.go:84", after := #[{ on := 2, ground := Ground.data }, { on := 5, ground := Ground.data }], guard := none }) rfl (fun K hK => ?_) ?_
                  · refine stepA_m rfl (.tmp 56) (.tmp 59) (by rfl) wd.heap.size _ [] (by rfl) (A.own_empty hx3 hshb1) aN (n.take k) k cN hlk (by rfl) (ints_take (HId.out.below hb1) k) (by rw [hlk]; simp only [List.length_nil]; have := HLN.out; have := HLT.out; omega) hb1.size ?_
                    intro v5 wa6 hT7
                    have hb8 := hT7.below (A.own_empty hx3 hshb1) hb1 (Nat.le_refl _)
                    have ow9 := hT7.own
                    rw [List.nil_append] at ow9
                    refine hK.out _ _ (fun _ => ((HKd.step hb8)).cells.1) ?_
                    clear hK K hT7
                    try simp only [Act.put, List.setIfInBounds_toArray, List.set_cons_zero, List.set_cons_succ]
                    refine wpAnyT_ready (rs := [7]) (by kernel_rfl) (by simp) ?_
                    refine AllReadyT.cons (o := { dst := some 61, op := Op.buildSlice 24 0 #[], type := 24, pos := "law.go:84", after := #[], guard := none }) rfl (fun K hK => ?_) AllReadyT.nil
                    go_simp
                    have hb10 := hb8.alloc hb8.size (.cells #[] 9)
                    have hx12 := heap_alloc_new wa6 (.cells #[] 9)
                    have ow14 := World.ownsRow.alloc ow9 (.cells #[] 9)
                    have hshb10 := hb8.size
                    refine hK.out _ _ (fun _ => ((HKd.step hb10)).cells.1) ?_
                    clear hK K
                    generalize wa6.alloc (.cells #[] 9) = wa11 at *
                    generalize wa6.heap.size = ad13 at *
                    try simp only [Act.put, List.setIfInBounds_toArray, List.set_cons_zero, List.set_cons_succ]
                    refine wpAnyT_ready (rs := [11]) (by kernel_rfl) (by simp) ?_
                    refine AllReadyT.cons (o := { dst := some 65, op := Op.call { callee := Callee.builtin Builtin.append, args := #[Operand.tmp 61, Operand.tmp 64], argTypes := #[24, 24] }, type := 24, pos := "law.go:84", after := #[{ on := 7, ground := Ground.data }, { on := 10, ground := Ground.data }, { on := 6, ground := Ground.chain }], guard := none }) rfl (fun K hK => ?_) AllReadyT.nil
                    refine stepB_m rfl (.tmp 61) (.tmp 64) (by rfl) wd.heap.size _ [] (by rfl) (B.own_empty hx12 hshb10) aT (t.take j) j cT hlj (by rfl) (ss_take (HSd.out.below hb10) j) (by rw [hlj]; simp only [List.length_nil]; have := HLN.out; have := HLT.out; omega) hb10.size ?_
                    intro v15 wa16 hT17
                    have hb18 := hT17.below (B.own_empty hx12 hshb10) hb10 (Nat.le_refl _)
                    have ow20 := own_grown hT17.grown (B.own_empty hx12 hshb10) ow14
                    have ow19 := hT17.own
                    rw [List.nil_append] at ow19
                    refine hK.out _ _ (fun _ => ((HKd.step hb18)).cells.1) ?_
                    clear hK K hT17
                    try simp only [Act.put, List.setIfInBounds_toArray, List.set_cons_zero, List.set_cons_succ]
                    obtain ⟨qa, qc, q1, q2, q3, q4⟩ := A.own_form ow20
                    obtain ⟨ra, rc, r1, r2, r3, r4⟩ := B.own_form ow19
                    subst q1 r1
                    refine wpAnyT_free (i := 12) (oi := { dst := some 66, op := Op.build 31 #[(0, Operand.tmp 60), (1, Operand.tmp 65)], type := 31, pos := "law.go:84", after := #[{ on := 6, ground := Ground.data }, { on := 11, ground := Ground.data }], guard := none }) (v := .agg #[.slice qa (n.take k).length qc, .slice ra (t.take j).length rc]) rfl (by kernel_rfl) (by kernel_rfl) (by kernel_rfl) (fun _ _ _ h => h) rfl (Or.inl ⟨by rfl, ?_⟩) (fun _ => ((HKd.step hb18)).cells.1) ?_
                    · intro wz _; first | (go_simp; done) | (go_simp; with_reducible rfl) | (go_simp; simp [*]; done)
                    try simp only [Act.put, List.setIfInBounds_toArray, List.set_cons_zero, List.set_cons_succ]
                    refine wpAnyT_ready (rs := [13]) (by kernel_rfl) (by simp) ?_
                    refine AllReadyT.cons (o := { dst := some 67, op := Op.call { callee := Callee.value (Operand.func 8), args := #[Operand.tmp 55, Operand.tmp 66], argTypes := #[9, 31] }, type := 28, pos := "law.go:84", after := #[{ on := 1, ground := Ground.data }, { on := 12, ground := Ground.data }, { on := 11, ground := Ground.chain }], guard := none }) rfl (fun K hK => ?_) AllReadyT.nil
                    go_simp
                    refine (enc_m FA fa HFA.out (n.take k) (t.take j) k j hlk hlj qa qc ra rc _ q2 r2 ⟨q3, q4⟩ ⟨r3, r4⟩ (by rw [hlk, hlj]; have := HLN.out; have := HLT.out; omega) x1 HX1.out).mono ?_
                    rintro r wz ⟨rfl, hbz⟩
                    dsimp only
                    have HKz := Lib.hid ((HKd.step hb18).step hbz)
                    clear hbz q2 r2 q3 q4 r3 r4
                    refine hK.out _ _ (fun h => absurd h (by decide)) ?_
                    clear hK K
                    try simp only [Act.put, List.setIfInBounds_toArray, List.set_cons_zero, List.set_cons_succ]
                    refine wpAnyT_free (i := 14) (oi := { dst := some 53, op := Op.move (Operand.tmp 67), type := 28, pos := "law.go:84", after := #[{ on := 13, ground := Ground.data }], guard := none }) (v := .tuple #[.string (encS x1), .int .i64 (encE x1)]) rfl (by kernel_rfl) (by kernel_rfl) (by kernel_rfl) (fun _ _ _ h => h) rfl (Or.inl ⟨by rfl, ?_⟩) (fun h => absurd h (by decide)) ?_
                    · intro wz _; first | (go_simp; done) | (go_simp; with_reducible rfl) | (go_simp; simp [*]; done)
                    try simp only [Act.put, List.setIfInBounds_toArray, List.set_cons_zero, List.set_cons_succ]
                    refine wpAnyT_free (i := 15) (oi := { dst := some 68, op := Op.extract (Operand.tmp 53) 0, type := 9, pos := "law.go:84", after := #[{ on := 14, ground := Ground.data }], guard := none }) (v := .string (encS x1)) rfl (by kernel_rfl) (by kernel_rfl) (by kernel_rfl) (fun _ _ _ h => h) rfl (Or.inl ⟨by rfl, ?_⟩) (fun h => absurd h (by decide)) ?_
                    · intro wz _; first | (go_simp; done) | (go_simp; with_reducible rfl) | (go_simp; simp [*]; done)
                    try simp only [Act.put, List.setIfInBounds_toArray, List.set_cons_zero, List.set_cons_succ]
                    refine wpAnyT_free (i := 16) (oi := { dst := some 69, op := Op.extract (Operand.tmp 53) 1, type := 27, pos := "law.go:84", after := #[{ on := 14, ground := Ground.data }, { on := 17, ground := Ground.gcOnly Departure.lateStores }], guard := none }) (v := .int .i64 (encE x1)) rfl (by kernel_rfl) (by kernel_rfl) (by kernel_rfl) (fun _ _ _ h => h) rfl (Or.inl ⟨by rfl, ?_⟩) (fun h => absurd h (by decide)) ?_
                    · intro wz _; first | (go_simp; done) | (go_simp; with_reducible rfl) | (go_simp; simp [*]; done)
                    try simp only [Act.put, List.setIfInBounds_toArray, List.set_cons_zero, List.set_cons_succ]
                    refine wpAnyT_free (i := 17) (oi := { dst := some 9, op := Op.assign (Operand.tmp 68), type := 9, pos := "law.go:84", after := #[{ on := 15, ground := Ground.data }, { on := 13, ground := Ground.chain }, { on := 0, ground := Ground.phase }, { on := 1, ground := Ground.phase }, { on := 2, ground := Ground.phase }, { on := 3, ground := Ground.phase }, { on := 4, ground := Ground.phase }, { on := 5, ground := Ground.phase }, { on := 6, ground := Ground.phase }, { on := 7, ground := Ground.phase }, { on := 8, ground := Ground.phase }, { on := 9, ground := Ground.phase }, { on := 10, ground := Ground.phase }, { on := 11, ground := Ground.phase }, { on := 12, ground := Ground.phase }, { on := 13, ground := Ground.phase }, { on := 14, ground := Ground.phase }, { on := 15, ground := Ground.phase }, { on := 16, ground := Ground.textOnly Departure.lateStores }], guard := none }) (v := .string (encS x1)) rfl (by kernel_rfl) (by kernel_rfl) (by kernel_rfl) (fun _ _ _ h => h) rfl (Or.inl ⟨by rfl, ?_⟩) (fun h => absurd h (by decide)) ?_
                    · intro wz _; first | (go_simp; done) | (go_simp; with_reducible rfl) | (go_simp; simp [*]; done)
                    try simp only [Act.put, List.setIfInBounds_toArray, List.set_cons_zero, List.set_cons_succ]
                    refine wpAnyT_free (i := 18) (oi := { dst := some 10, op := Op.assign (Operand.tmp 69), type := 27, pos := "law.go:84", after := #[{ on := 16, ground := Ground.data }, { on := 17, ground := Ground.chain }, { on := 0, ground := Ground.phase }, { on := 1, ground := Ground.phase }, { on := 2, ground := Ground.phase }, { on := 3, ground := Ground.phase }, { on := 4, ground := Ground.phase }, { on := 5, ground := Ground.phase }, { on := 6, ground := Ground.phase }, { on := 7, ground := Ground.phase }, { on := 8, ground := Ground.phase }, { on := 9, ground := Ground.phase }, { on := 10, ground := Ground.phase }, { on := 11, ground := Ground.phase }, { on := 12, ground := Ground.phase }, { on := 13, ground := Ground.phase }, { on := 14, ground := Ground.phase }, { on := 15, ground := Ground.phase }, { on := 16, ground := Ground.phase }, { on := 17, ground := Ground.phase }], guard := none }) (v := .int .i64 (encE x1)) rfl (by kernel_rfl) (by kernel_rfl) (by kernel_rfl) (fun _ _ _ h => h) rfl (Or.inl ⟨by rfl, ?_⟩) (fun h => absurd h (by decide)) ?_
                    · intro wz _; first | (go_simp; done) | (go_simp; with_reducible rfl) | (go_simp; simp [*]; done)
                    try simp only [Act.put, List.setIfInBounds_toArray, List.set_cons_zero, List.set_cons_succ]
                    refine wpAnyT_done (by kernel_rfl) ?_ _
                    refine NoPanic.normal ?_
                    go_wp2
                    go_meet
                    exact ⟨rfl, rfl, HKz.out⟩
                  refine AllReadyT.cons (o := { dst := some 61, op := Op.buildSlice 24 0 #[], type := 24, pos := "law.go:84", after := #[], guard := none }) rfl (fun K hK => ?_) AllReadyT.nil
                  go_simp
                  have hb21 := hb1.alloc hb1.size (.cells #[] 9)
                  have hx23 := heap_alloc_new wa2 (.cells #[] 9)
                  have hk25 := (Below.heap_alloc wa2 (.cells #[] 9) _ (Array.getElem?_eq_some_iff.1 hx3).1).trans hx3
                  have hshb21 := hb1.size
                  refine hK.out _ _ (fun _ => ((HKd.step hb21)).cells.1) ?_
                  clear hK K
                  generalize wa2.alloc (.cells #[] 9) = wa22 at *
                  generalize wa2.heap.size = ad24 at *
                  try simp only [Act.put, List.setIfInBounds_toArray, List.set_cons_zero, List.set_cons_succ]
                  refine wpAnyT_ready (rs := [6]) (by kernel_rfl) (by simp) ?_
                  refine AllReadyT.cons (o := { dst := some 60, op := Op.call { callee := Callee.builtin Builtin.append, args := #[Operand.tmp 56, Operand.tmp 59], argTypes := #[23, 23] }, type := 23, pos := "law.go:84", after := #[{ on := 2, ground := Ground.data }, { on := 5, ground := Ground.data }], guard := none }) rfl (fun K hK => ?_) AllReadyT.nil
                  refine stepA_m rfl (.tmp 56) (.tmp 59) (by rfl) wd.heap.size _ [] (by rfl) (A.own_empty hk25 hshb1) aN (n.take k) k cN hlk (by rfl) (ints_take (HId.out.below hb21) k) (by rw [hlk]; simp only [List.length_nil]; have := HLN.out; have := HLT.out; omega) hb21.size ?_
                  intro v26 wa27 hT28
                  have hb29 := hT28.below (A.own_empty hk25 hshb1) hb21 (Nat.le_refl _)
                  have hk31 := grow_keeps hT28.grown (A.own_empty hk25 hshb1) _ _ 9 _ (by decide) hx23
                  have ow30 := hT28.own
                  rw [List.nil_append] at ow30
                  refine hK.out _ _ (fun _ => ((HKd.step hb29)).cells.1) ?_
                  clear hK K hT28
                  try simp only [Act.put, List.setIfInBounds_toArray, List.set_cons_zero, List.set_cons_succ]
                  refine wpAnyT_ready (rs := [11]) (by kernel_rfl) (by simp) ?_
                  refine AllReadyT.cons (o := { dst := some 65, op := Op.call { callee := Callee.builtin Builtin.append, args := #[Operand.tmp 61, Operand.tmp 64], argTypes := #[24, 24] }, type := 24, pos := "law.go:84", after := #[{ on := 7, ground := Ground.data }, { on := 10, ground := Ground.data }, { on := 6, ground := Ground.chain }], guard := none }) rfl (fun K hK => ?_) AllReadyT.nil
                  refine stepB_m rfl (.tmp 61) (.tmp 64) (by rfl) wd.heap.size _ [] (by rfl) (B.own_empty hk31 hshb21) aT (t.take j) j cT hlj (by rfl) (ss_take (HSd.out.below hb29) j) (by rw [hlj]; simp only [List.length_nil]; have := HLN.out; have := HLT.out; omega) hb29.size ?_
                  intro v32 wa33 hT34
                  have hb35 := hT34.below (B.own_empty hk31 hshb21) hb29 (Nat.le_refl _)
                  have ow37 := own_grown hT34.grown (B.own_empty hk31 hshb21) ow30
                  have ow36 := hT34.own
                  rw [List.nil_append] at ow36
                  refine hK.out _ _ (fun _ => ((HKd.step hb35)).cells.1) ?_
                  clear hK K hT34
                  try simp only [Act.put, List.setIfInBounds_toArray, List.set_cons_zero, List.set_cons_succ]
                  obtain ⟨qa, qc, q1, q2, q3, q4⟩ := A.own_form ow37
                  obtain ⟨ra, rc, r1, r2, r3, r4⟩ := B.own_form ow36
                  subst q1 r1
                  refine wpAnyT_free (i := 12) (oi := { dst := some 66, op := Op.build 31 #[(0, Operand.tmp 60), (1, Operand.tmp 65)], type := 31, pos := "law.go:84", after := #[{ on := 6, ground := Ground.data }, { on := 11, ground := Ground.data }], guard := none }) (v := .agg #[.slice qa (n.take k).length qc, .slice ra (t.take j).length rc]) rfl (by kernel_rfl) (by kernel_rfl) (by kernel_rfl) (fun _ _ _ h => h) rfl (Or.inl ⟨by rfl, ?_⟩) (fun _ => ((HKd.step hb35)).cells.1) ?_
                  · intro wz _; first | (go_simp; done) | (go_simp; with_reducible rfl) | (go_simp; simp [*]; done)
                  try simp only [Act.put, List.setIfInBounds_toArray, List.set_cons_zero, List.set_cons_succ]
                  refine wpAnyT_ready (rs := [13]) (by kernel_rfl) (by simp) ?_
                  refine AllReadyT.cons (o := { dst := some 67, op := Op.call { callee := Callee.value (Operand.func 8), args := #[Operand.tmp 55, Operand.tmp 66], argTypes := #[9, 31] }, type := 28, pos := "law.go:84", after := #[{ on := 1, ground := Ground.data }, { on := 12, ground := Ground.data }, { on := 11, ground := Ground.chain }], guard := none }) rfl (fun K hK => ?_) AllReadyT.nil
                  go_simp
                  refine (enc_m FA fa HFA.out (n.take k) (t.take j) k j hlk hlj qa qc ra rc _ q2 r2 ⟨q3, q4⟩ ⟨r3, r4⟩ (by rw [hlk, hlj]; have := HLN.out; have := HLT.out; omega) x1 HX1.out).mono ?_
                  rintro r wz ⟨rfl, hbz⟩
                  dsimp only
                  have HKz := Lib.hid ((HKd.step hb35).step hbz)
                  clear hbz q2 r2 q3 q4 r3 r4
                  refine hK.out _ _ (fun h => absurd h (by decide)) ?_
                  clear hK K
                  try simp only [Act.put, List.setIfInBounds_toArray, List.set_cons_zero, List.set_cons_succ]
                  refine wpAnyT_free (i := 14) (oi := { dst := some 53, op := Op.move (Operand.tmp 67), type := 28, pos := "law.go:84", after := #[{ on := 13, ground := Ground.data }], guard := none }) (v := .tuple #[.string (encS x1), .int .i64 (encE x1)]) rfl (by kernel_rfl) (by kernel_rfl) (by kernel_rfl) (fun _ _ _ h => h) rfl (Or.inl ⟨by rfl, ?_⟩) (fun h => absurd h (by decide)) ?_
                  · intro wz _; first | (go_simp; done) | (go_simp; with_reducible rfl) | (go_simp; simp [*]; done)
                  try simp only [Act.put, List.setIfInBounds_toArray, List.set_cons_zero, List.set_cons_succ]
                  refine wpAnyT_free (i := 15) (oi := { dst := some 68, op := Op.extract (Operand.tmp 53) 0, type := 9, pos := "law.go:84", after := #[{ on := 14, ground := Ground.data }], guard := none }) (v := .string (encS x1)) rfl (by kernel_rfl) (by kernel_rfl) (by kernel_rfl) (fun _ _ _ h => h) rfl (Or.inl ⟨by rfl, ?_⟩) (fun h => absurd h (by decide)) ?_
                  · intro wz _; first | (go_simp; done) | (go_simp; with_reducible rfl) | (go_simp; simp [*]; done)
                  try simp only [Act.put, List.setIfInBounds_toArray, List.set_cons_zero, List.set_cons_succ]
                  refine wpAnyT_free (i := 16) (oi := { dst := some 69, op := Op.extract (Operand.tmp 53) 1, type := 27, pos := "law.go:84", after := #[{ on := 14, ground := Ground.data }, { on := 17, ground := Ground.gcOnly Departure.lateStores }], guard := none }) (v := .int .i64 (encE x1)) rfl (by kernel_rfl) (by kernel_rfl) (by kernel_rfl) (fun _ _ _ h => h) rfl (Or.inl ⟨by rfl, ?_⟩) (fun h => absurd h (by decide)) ?_
                  · intro wz _; first | (go_simp; done) | (go_simp; with_reducible rfl) | (go_simp; simp [*]; done)
                  try simp only [Act.put, List.setIfInBounds_toArray, List.set_cons_zero, List.set_cons_succ]
                  refine wpAnyT_free (i := 17) (oi := { dst := some 9, op := Op.assign (Operand.tmp 68), type := 9, pos := "law.go:84", after := #[{ on := 15, ground := Ground.data }, { on := 13, ground := Ground.chain }, { on := 0, ground := Ground.phase }, { on := 1, ground := Ground.phase }, { on := 2, ground := Ground.phase }, { on := 3, ground := Ground.phase }, { on := 4, ground := Ground.phase }, { on := 5, ground := Ground.phase }, { on := 6, ground := Ground.phase }, { on := 7, ground := Ground.phase }, { on := 8, ground := Ground.phase }, { on := 9, ground := Ground.phase }, { on := 10, ground := Ground.phase }, { on := 11, ground := Ground.phase }, { on := 12, ground := Ground.phase }, { on := 13, ground := Ground.phase }, { on := 14, ground := Ground.phase }, { on := 15, ground := Ground.phase }, { on := 16, ground := Ground.textOnly Departure.lateStores }], guard := none }) (v := .string (encS x1)) rfl (by kernel_rfl) (by kernel_rfl) (by kernel_rfl) (fun _ _ _ h => h) rfl (Or.inl ⟨by rfl, ?_⟩) (fun h => absurd h (by decide)) ?_
                  · intro wz _; first | (go_simp; done) | (go_simp; with_reducible rfl) | (go_simp; simp [*]; done)
                  try simp only [Act.put, List.setIfInBounds_toArray, List.set_cons_zero, List.set_cons_succ]
                  refine wpAnyT_free (i := 18) (oi := { dst := some 10, op := Op.assign (Operand.tmp 69), type := 27, pos := "law.go:84", after := #[{ on := 16, ground := Ground.data }, { on := 17, ground := Ground.chain }, { on := 0, ground := Ground.phase }, { on := 1, ground := Ground.phase }, { on := 2, ground := Ground.phase }, { on := 3, ground := Ground.phase }, { on := 4, ground := Ground.phase }, { on := 5, ground := Ground.phase }, { on := 6, ground := Ground.phase }, { on := 7, ground := Ground.phase }, { on := 8, ground := Ground.phase }, { on := 9, ground := Ground.phase }, { on := 10, ground := Ground.phase }, { on := 11, ground := Ground.phase }, { on := 12, ground := Ground.phase }, { on := 13, ground := Ground.phase }, { on := 14, ground := Ground.phase }, { on := 15, ground := Ground.phase }, { on := 16, ground := Ground.phase }, { on := 17, ground := Ground.phase }], guard := none }) (v := .int .i64 (encE x1)) rfl (by kernel_rfl) (by kernel_rfl) (by kernel_rfl) (fun _ _ _ h => h) rfl (Or.inl ⟨by rfl, ?_⟩) (fun h => absurd h (by decide)) ?_
                  · intro wz _; first | (go_simp; done) | (go_simp; with_reducible rfl) | (go_simp; simp [*]; done)
                  try simp only [Act.put, List.setIfInBounds_toArray, List.set_cons_zero, List.set_cons_succ]
                  refine wpAnyT_done (by kernel_rfl) ?_ _
                  refine NoPanic.normal ?_
                  go_wp2
                  go_meet
                  exact ⟨rfl, rfl, HKz.out⟩
                refine AllReadyT.cons (o := { dst := some 61, op := Op.buildSlice 24 0 #[], type := 24, pos := "law.go:84", after := #[], guard := none }) rfl (fun K hK => ?_) AllReadyT.nil
                go_simp
                have hb38 := hb0.alloc hb0.size (.cells #[] 9)
                have hx40 := heap_alloc_new wd (.cells #[] 9)
                have hshb38 := hb0.size
                refine hK.out _ _ (fun _ => ((HKd.step hb38)).cells.1) ?_
                clear hK K
                generalize wd.alloc (.cells #[] 9) = wa39 at *
                try simp only [Act.put, List.setIfInBounds_toArray, List.set_cons_zero, List.set_cons_succ]
                refine wpAnyT_ready (rs := [2]) (by kernel_rfl) (by simp) ?_
                refine AllReadyT.cons (o := { dst := some 56, op := Op.buildSlice 23 0 #[], type := 23, pos := "law.go:84", after := #[], guard := none }) rfl (fun K hK => ?_) AllReadyT.nil
                go_simp
                have hb42 := hb38.alloc hb38.size (.cells #[] 3)
                have hx44 := heap_alloc_new wa39 (.cells #[] 3)
                have hk46 := (Below.heap_alloc wa39 (.cells #[] 3) _ (Array.getElem?_eq_some_iff.1 hx40).1).trans hx40
                have hshb42 := hb38.size
                refine hK.out _ _ (fun _ => ((HKd.step hb42)).cells.1) ?_
                clear hK K
                generalize wa39.alloc (.cells #[] 3) = wa43 at *
                generalize wa39.heap.size = ad45 at *
                try simp only [Act.put, List.setIfInBounds_toArray, List.set_cons_zero, List.set_cons_succ]
                refine wpAnyT_ready (rs := [6]) (by kernel_rfl) (by simp) ?_
                refine AllReadyT.cons (o := { dst := some 60, op := Op.call { callee := Callee.builtin Builtin.append, args := #[Operand.tmp 56, Operand.tmp 59], argTypes := #[23, 23] }, type := 23, pos := "law.go:84", after := #[{ on := 2, ground := Ground.data }, { on := 5, ground := Ground.data }], guard := none }) rfl (fun K hK => ?_) AllReadyT.nil
                refine stepA_m rfl (.tmp 56) (.tmp 59) (by rfl) wd.heap.size _ [] (by rfl) (A.own_empty hx44 hshb42) aN (n.take k) k cN hlk (by rfl) (ints_take (HId.out.below hb42) k) (by rw [hlk]; simp only [List.length_nil]; have := HLN.out; have := HLT.out; omega) hb42.size ?_
                intro v47 wa48 hT49
                have hb50 := hT49.below (A.own_empty hx44 hshb42) hb42 (Nat.le_refl _)
                have hk52 := grow_keeps hT49.grown (A.own_empty hx44 hshb42) _ _ 9 _ (by decide) hk46
                have ow51 := hT49.own
                rw [List.nil_append] at ow51
                refine hK.out _ _ (fun _ => ((HKd.step hb50)).cells.1) ?_
                clear hK K hT49
                try simp only [Act.put, List.setIfInBounds_toArray, List.set_cons_zero, List.set_cons_succ]
                refine wpAnyT_ready (rs := [11]) (by kernel_rfl) (by simp) ?_
                refine AllReadyT.cons (o := { dst := some 65, op := Op.call { callee := Callee.builtin Builtin.append, args := #[Operand.tmp 61, Operand.tmp 64], argTypes := #[24, 24] }, type := 24, pos := "law.go:84", after := #[{ on := 7, ground := Ground.data }, { on := 10, ground := Ground.data }, { on := 6, ground := Ground.chain }], guard := none }) rfl (fun K hK => ?_) AllReadyT.nil
                refine stepB_m rfl (.tmp 61) (.tmp 64) (by rfl) wd.heap.size _ [] (by rfl) (B.own_empty hk52 hshb38) aT (t.take j) j cT hlj (by rfl) (ss_take (HSd.out.below hb50) j) (by rw [hlj]; simp only [List.length_nil]; have := HLN.out; have := HLT.out; omega) hb50.size ?_
                intro v53 wa54 hT55
                have hb56 := hT55.below (B.own_empty hk52 hshb38) hb50 (Nat.le_refl _)
                have ow58 := own_grown hT55.grown (B.own_empty hk52 hshb38) ow51
                have ow57 := hT55.own
                rw [List.nil_append] at ow57
                refine hK.out _ _ (fun _ => ((HKd.step hb56)).cells.1) ?_
                clear hK K hT55
                try simp only [Act.put, List.setIfInBounds_toArray, List.set_cons_zero, List.set_cons_succ]
                obtain ⟨qa, qc, q1, q2, q3, q4⟩ := A.own_form ow58
                obtain ⟨ra, rc, r1, r2, r3, r4⟩ := B.own_form ow57
                subst q1 r1
                refine wpAnyT_free (i := 12) (oi := { dst := some 66, op := Op.build 31 #[(0, Operand.tmp 60), (1, Operand.tmp 65)], type := 31, pos := "law.go:84", after := #[{ on := 6, ground := Ground.data }, { on := 11, ground := Ground.data }], guard := none }) (v := .agg #[.slice qa (n.take k).length qc, .slice ra (t.take j).length rc]) rfl (by kernel_rfl) (by kernel_rfl) (by kernel_rfl) (fun _ _ _ h => h) rfl (Or.inl ⟨by rfl, ?_⟩) (fun _ => ((HKd.step hb56)).cells.1) ?_
                · intro wz _; first | (go_simp; done) | (go_simp; with_reducible rfl) | (go_simp; simp [*]; done)
                try simp only [Act.put, List.setIfInBounds_toArray, List.set_cons_zero, List.set_cons_succ]
                refine wpAnyT_ready (rs := [13]) (by kernel_rfl) (by simp) ?_
                refine AllReadyT.cons (o := { dst := some 67, op := Op.call { callee := Callee.value (Operand.func 8), args := #[Operand.tmp 55, Operand.tmp 66], argTypes := #[9, 31] }, type := 28, pos := "law.go:84", after := #[{ on := 1, ground := Ground.data }, { on := 12, ground := Ground.data }, { on := 11, ground := Ground.chain }], guard := none }) rfl (fun K hK => ?_) AllReadyT.nil
                go_simp
                refine (enc_m FA fa HFA.out (n.take k) (t.take j) k j hlk hlj qa qc ra rc _ q2 r2 ⟨q3, q4⟩ ⟨r3, r4⟩ (by rw [hlk, hlj]; have := HLN.out; have := HLT.out; omega) x1 HX1.out).mono ?_
                rintro r wz ⟨rfl, hbz⟩
                dsimp only
                have HKz := Lib.hid ((HKd.step hb56).step hbz)
                clear hbz q2 r2 q3 q4 r3 r4
                refine hK.out _ _ (fun h => absurd h (by decide)) ?_
                clear hK K
                try simp only [Act.put, List.setIfInBounds_toArray, List.set_cons_zero, List.set_cons_succ]
                refine wpAnyT_free (i := 14) (oi := { dst := some 53, op := Op.move (Operand.tmp 67), type := 28, pos := "law.go:84", after := #[{ on := 13, ground := Ground.data }], guard := none }) (v := .tuple #[.string (encS x1), .int .i64 (encE x1)]) rfl (by kernel_rfl) (by kernel_rfl) (by kernel_rfl) (fun _ _ _ h => h) rfl (Or.inl ⟨by rfl, ?_⟩) (fun h => absurd h (by decide)) ?_
                · intro wz _; first | (go_simp; done) | (go_simp; with_reducible rfl) | (go_simp; simp [*]; done)
                try simp only [Act.put, List.setIfInBounds_toArray, List.set_cons_zero, List.set_cons_succ]
                refine wpAnyT_free (i := 15) (oi := { dst := some 68, op := Op.extract (Operand.tmp 53) 0, type := 9, pos := "law.go:84", after := #[{ on := 14, ground := Ground.data }], guard := none }) (v := .string (encS x1)) rfl (by kernel_rfl) (by kernel_rfl) (by kernel_rfl) (fun _ _ _ h => h) rfl (Or.inl ⟨by rfl, ?_⟩) (fun h => absurd h (by decide)) ?_
                · intro wz _; first | (go_simp; done) | (go_simp; with_reducible rfl) | (go_simp; simp [*]; done)
                try simp only [Act.put, List.setIfInBounds_toArray, List.set_cons_zero, List.set_cons_succ]
                refine wpAnyT_free (i := 16) (oi := { dst := some 69, op := Op.extract (Operand.tmp 53) 1, type := 27, pos := "law.go:84", after := #[{ on := 14, ground := Ground.data }, { on := 17, ground := Ground.gcOnly Departure.lateStores }], guard := none }) (v := .int .i64 (encE x1)) rfl (by kernel_rfl) (by kernel_rfl) (by kernel_rfl) (fun _ _ _ h => h) rfl (Or.inl ⟨by rfl, ?_⟩) (fun h => absurd h (by decide)) ?_
                · intro wz _; first | (go_simp; done) | (go_simp; with_reducible rfl) | (go_simp; simp [*]; done)
                try simp only [Act.put, List.setIfInBounds_toArray, List.set_cons_zero, List.set_cons_succ]
                refine wpAnyT_free (i := 17) (oi := { dst := some 9, op := Op.assign (Operand.tmp 68), type := 9, pos := "law.go:84", after := #[{ on := 15, ground := Ground.data }, { on := 13, ground := Ground.chain }, { on := 0, ground := Ground.phase }, { on := 1, ground := Ground.phase }, { on := 2, ground := Ground.phase }, { on := 3, ground := Ground.phase }, { on := 4, ground := Ground.phase }, { on := 5, ground := Ground.phase }, { on := 6, ground := Ground.phase }, { on := 7, ground := Ground.phase }, { on := 8, ground := Ground.phase }, { on := 9, ground := Ground.phase }, { on := 10, ground := Ground.phase }, { on := 11, ground := Ground.phase }, { on := 12, ground := Ground.phase }, { on := 13, ground := Ground.phase }, { on := 14, ground := Ground.phase }, { on := 15, ground := Ground.phase }, { on := 16, ground := Ground.textOnly Departure.lateStores }], guard := none }) (v := .string (encS x1)) rfl (by kernel_rfl) (by kernel_rfl) (by kernel_rfl) (fun _ _ _ h => h) rfl (Or.inl ⟨by rfl, ?_⟩) (fun h => absurd h (by decide)) ?_
                · intro wz _; first | (go_simp; done) | (go_simp; with_reducible rfl) | (go_simp; simp [*]; done)
                try simp only [Act.put, List.setIfInBounds_toArray, List.set_cons_zero, List.set_cons_succ]
                refine wpAnyT_free (i := 18) (oi := { dst := some 10, op := Op.assign (Operand.tmp 69), type := 27, pos := "law.go:84", after := #[{ on := 16, ground := Ground.data }, { on := 17, ground := Ground.chain }, { on := 0, ground := Ground.phase }, { on := 1, ground := Ground.phase }, { on := 2, ground := Ground.phase }, { on := 3, ground := Ground.phase }, { on := 4, ground := Ground.phase }, { on := 5, ground := Ground.phase }, { on := 6, ground := Ground.phase }, { on := 7, ground := Ground.phase }, { on := 8, ground := Ground.phase }, { on := 9, ground := Ground.phase }, { on := 10, ground := Ground.phase }, { on := 11, ground := Ground.phase }, { on := 12, ground := Ground.phase }, { on := 13, ground := Ground.phase }, { on := 14, ground := Ground.phase }, { on := 15, ground := Ground.phase }, { on := 16, ground := Ground.phase }, { on := 17, ground := Ground.phase }], guard := none }) (v := .int .i64 (encE x1)) rfl (by kernel_rfl) (by kernel_rfl) (by kernel_rfl) (fun _ _ _ h => h) rfl (Or.inl ⟨by rfl, ?_⟩) (fun h => absurd h (by decide)) ?_
                · intro wz _; first | (go_simp; done) | (go_simp; with_reducible rfl) | (go_simp; simp [*]; done)
                try simp only [Act.put, List.setIfInBounds_toArray, List.set_cons_zero, List.set_cons_succ]
                refine wpAnyT_done (by kernel_rfl) ?_ _
                refine NoPanic.normal ?_
                go_wp2
                go_meet
                exact ⟨rfl, rfl, HKz.out⟩
              case rest =>
              obtain ⟨rfl, rfl, hkr⟩ := hcut
              have HKA := Lib.hid hkr
              clear hkr HKJ
              go_upto_region 12 with (fail)
              go_cut [11, 12] from 43 to 125 (fun s e wx => s = .string (encS x2) ∧ e = .int .i64 (encE x2) ∧ Kr w X FA FB wx)
              case first =>
                have HIQ : A.IntsAt wc aN n := HIN.out.below HKA.out.low
                have HSQ : B.SsAt wc aT t := HIT.out.below HKA.out.low
                have HKJ0 := HKA.out
                have hlk : (n.drop k).length = n.length - k := List.length_drop
                have hlj : (t.drop j).length = t.length - j := List.length_drop
                have hs3 := sl_drop3 aN n.length cN k (by omega)
                have hs9 := sl_drop9 aT t.length cT j (by omega)
                refine wp_region_noPanic ?_
                have HKd := HKJ0.drew
                have HId := Lib.hid (show A.IntsAt wc.drew aN n from fun i hi => HIQ i hi)
                have HSd := Lib.hid (show B.SsAt wc.drew aT t from fun i hi => HSQ i hi)
                refine wp_region_till (C := fun w' => w'.cell? ⟨X, 1, none⟩ = some (.string FB)) (st := 13) (by kernel_rfl) ?_
                clear HIQ HSQ HKJ0
                generalize wc.drew = wd at *
                have hb0 := Below.refl wd.heap.size wd
                refine wpAnyT_free (i := 0) (oi := { dst := some 71, op := Op.indexAddr 22 (Operand.tmp 3) (Operand.const (Value.int IntKind.i64 1)), type := 0, pos := "law.go:85", after := #[], guard := none }) (v := .pointer (some ⟨X, 1, none⟩)) rfl (by kernel_rfl) (by kernel_rfl) (by kernel_rfl) (fun _ _ _ h => h) rfl (Or.inl ⟨by rfl, ?_⟩) (fun _ => ((HKd.step hb0)).cells.2) ?_
                · intro wz _; first | (go_simp; done) | (go_simp; with_reducible rfl) | (go_simp; simp [*]; done)
                try simp only [Act.put, List.setIfInBounds_toArray, List.set_cons_zero, List.set_cons_succ]
                refine wpAnyT_take (i := 1) (oi := { dst := some 72, op := Op.load 9 (Operand.tmp 71), type := 9, pos := "law.go:85", after := #[{ on := 0, ground := Ground.data }], guard := none }) (v := .string FB) rfl (by kernel_rfl) (by kernel_rfl) (by kernel_rfl) (fun _ _ _ h => h) rfl (by kernel_rfl) (by kernel_rfl) (Or.inl ⟨by rfl, ?_⟩) (((HKd.step hb0)).cells.2) ?_
                · intro wz hSw; (try dsimp only at hSw); first | (go_simp; simp [hSw]; done) | (go_simp; simp [hSw.1]; done) | (go_simp; simp [hSw.2]; done) | (go_simp; done)
                try simp only [Act.put, List.setIfInBounds_toArray, List.set_cons_zero, List.set_cons_succ]
                refine wpAnyT_free (i := 3) (oi := { dst := some 74, op := Op.move (Operand.tmp 1), type := 23, pos := "law.go:85", after := #[], guard := none }) (v := .slice aN n.length cN) rfl (by kernel_rfl) (by kernel_rfl) (by kernel_rfl) (fun _ _ _ h => h) rfl (Or.inl ⟨by rfl, ?_⟩) (fun _ => ((HKd.step hb0)).cells.2) ?_
                · intro wz _; first | (go_simp; done) | (go_simp; with_reducible rfl) | (go_simp; simp [*]; done)
                try simp only [Act.put, List.setIfInBounds_toArray, List.set_cons_zero, List.set_cons_succ]
                refine wpAnyT_free (i := 4) (oi := { dst := some 75, op := Op.move (Operand.tmp 7), type := 3, pos := "law.go:85", after := #[], guard := none }) (v := .int .i64 k) rfl (by kernel_rfl) (by kernel_rfl) (by kernel_rfl) (fun _ _ _ h => h) rfl (Or.inl ⟨by rfl, ?_⟩) (fun _ => ((HKd.step hb0)).cells.2) ?_
                · intro wz _; first | (go_simp; done) | (go_simp; with_reducible rfl) | (go_simp; simp [*]; done)
                try simp only [Act.put, List.setIfInBounds_toArray, List.set_cons_zero, List.set_cons_succ]
                refine wpAnyT_free (i := 5) (oi := { dst := some 76, op := Op.slice 23 (Operand.tmp 74) (some (Operand.tmp 75)) none none, type := 23, pos := "law.go:85", after := #[{ on := 3, ground := Ground.data }, { on := 4, ground := Ground.data }], guard := none }) (v := .slice (aDrop aN cN k) (n.length - k) (cN - k)) rfl (by kernel_rfl) (by kernel_rfl) (by kernel_rfl) (fun _ _ _ h => h) rfl (Or.inl ⟨by rfl, ?_⟩) (fun _ => ((HKd.step hb0)).cells.2) ?_
                · intro wz _; first | (go_simp; done) | (go_simp; with_reducible rfl) | (go_simp; simp [*]; done)
                try simp only [Act.put, List.setIfInBounds_toArray, List.set_cons_zero, List.set_cons_succ]
                refine wpAnyT_free (i := 8) (oi := { dst := some 79, op := Op.move (Operand.tmp 2), type := 24, pos := "law.go:85", after := #[], guard := none }) (v := .slice aT t.length cT) rfl (by kernel_rfl) (by kernel_rfl) (by kernel_rfl) (fun _ _ _ h => h) rfl (Or.inl ⟨by rfl, ?_⟩) (fun _ => ((HKd.step hb0)).cells.2) ?_
                · intro wz _; first | (go_simp; done) | (go_simp; with_reducible rfl) | (go_simp; simp [*]; done)
                try simp only [Act.put, List.setIfInBounds_toArray, List.set_cons_zero, List.set_cons_succ]
                refine wpAnyT_free (i := 9) (oi := { dst := some 80, op := Op.move (Operand.tmp 8), type := 3, pos := "law.go:85", after := #[], guard := none }) (v := .int .i64 j) rfl (by kernel_rfl) (by kernel_rfl) (by kernel_rfl) (fun _ _ _ h => h) rfl (Or.inl ⟨by rfl, ?_⟩) (fun _ => ((HKd.step hb0)).cells.2) ?_
                · intro wz _; first | (go_simp; done) | (go_simp; with_reducible rfl) | (go_simp; simp [*]; done)
                try simp only [Act.put, List.setIfInBounds_toArray, List.set_cons_zero, List.set_cons_succ]
                refine wpAnyT_free (i := 10) (oi := { dst := some 81, op := Op.slice 24 (Operand.tmp 79) (some (Operand.tmp 80)) none none, type := 24, pos := "law.go:85", after := #[{ on := 8, ground := Ground.data }, { on := 9, ground := Ground.data }], guard := none }) (v := .slice (aDrop aT cT j) (t.length - j) (cT - j)) rfl (by kernel_rfl) (by kernel_rfl) (by kernel_rfl) (fun _ _ _ h => h) rfl (Or.inl ⟨by rfl, ?_⟩) (fun _ => ((HKd.step hb0)).cells.2) ?_
                · intro wz _; first | (go_simp; done) | (go_simp; with_reducible rfl) | (go_simp; simp [*]; done)
                try simp only [Act.put, List.setIfInBounds_toArray, List.set_cons_zero, List.set_cons_succ]
                refine wpAnyT_ready (rs := [2, 7]) (by kernel_rfl) (by simp) ?_
                refine AllReadyT.cons (o := { dst := some 73, op := Op.buildSlice 23 0 #[], type := 23, pos := "law.go:85", after := #[], guard := none }) rfl (fun K hK => ?_) ?_
                · go_simp
                  have hb1 := hb0.alloc hb0.size (.cells #[] 3)
                  have hx3 := heap_alloc_new wd (.cells #[] 3)
                  have hshb1 := hb0.size
                  refine hK.out _ _ (fun _ => ((HKd.step hb1)).cells.2) ?_
                  clear hK K
                  generalize wd.alloc (.cells #[] 3) = wa2 at *
                  try simp only [Act.put, List.setIfInBounds_toArray, List.set_cons_zero, List.set_cons_succ]
                  refine wpAnyT_ready (rs := [6, 7]) (by kernel_rfl) (by simp) ?_
                  refine AllReadyT.cons (o := { dst := some 77, op := Op.call { callee := Callee.builtin Builtin.append, args := #[Operand.tmp 73, Operand.tmp 76], argTypes := #[23, 23] }, type := 23, pos := "law.go:85", after := #[{ on := 2, ground := Ground.data }, { on := 5, ground := Ground.data }], guard := none }) rfl (fun K hK => ?_) ?_
                  · refine stepA_m rfl (.tmp 73) (.tmp 76) (by rfl) wd.heap.size _ [] (by rfl) (A.own_empty hx3 hshb1) (aDrop aN cN k) (n.drop k) (n.length - k) (cN - k) hlk (by rfl) (ints_drop (HId.out.below hb1) cN k HCN.out.1) (by rw [hlk]; simp only [List.length_nil]; have := HLN.out; have := HLT.out; omega) hb1.size ?_
                    intro v5 wa6 hT7
                    have hb8 := hT7.below (A.own_empty hx3 hshb1) hb1 (Nat.le_refl _)
                    have ow9 := hT7.own
                    rw [List.nil_append] at ow9
                    refine hK.out _ _ (fun _ => ((HKd.step hb8)).cells.2) ?_
                    clear hK K hT7
                    try simp only [Act.put, List.setIfInBounds_toArray, List.set_cons_zero, List.set_cons_succ]
                    refine wpAnyT_ready (rs := [7]) (by kernel_rfl) (by simp) ?_
                    refine AllReadyT.cons (o := { dst := some 78, op := Op.buildSlice 24 0 #[], type := 24, pos := "law.go:85", after := #[], guard := none }) rfl (fun K hK => ?_) AllReadyT.nil
                    go_simp
                    have hb10 := hb8.alloc hb8.size (.cells #[] 9)
                    have hx12 := heap_alloc_new wa6 (.cells #[] 9)
                    have ow14 := World.ownsRow.alloc ow9 (.cells #[] 9)
                    have hshb10 := hb8.size
                    refine hK.out _ _ (fun _ => ((HKd.step hb10)).cells.2) ?_
                    clear hK K
                    generalize wa6.alloc (.cells #[] 9) = wa11 at *
                    generalize wa6.heap.size = ad13 at *
                    try simp only [Act.put, List.setIfInBounds_toArray, List.set_cons_zero, List.set_cons_succ]
                    refine wpAnyT_ready (rs := [11]) (by kernel_rfl) (by simp) ?_
                    refine AllReadyT.cons (o := { dst := some 82, op := Op.call { callee := Callee.builtin Builtin.append, args := #[Operand.tmp 78, Operand.tmp 81], argTypes := #[24, 24] }, type := 24, pos := "law.go:85", after := #[{ on := 7, ground := Ground.data }, { on := 10, ground := Ground.data }, { on := 6, ground := Ground.chain }], guard := none }) rfl (fun K hK => ?_) AllReadyT.nil
                    refine stepB_m rfl (.tmp 78) (.tmp 81) (by rfl) wd.heap.size _ [] (by rfl) (B.own_empty hx12 hshb10) (aDrop aT cT j) (t.drop j) (t.length - j) (cT - j) hlj (by rfl) (ss_drop (HSd.out.below hb10) cT j HCT.out.1) (by rw [hlj]; simp only [List.length_nil]; have := HLN.out; have := HLT.out; omega) hb10.size ?_
                    intro v15 wa16 hT17
                    have hb18 := hT17.below (B.own_empty hx12 hshb10) hb10 (Nat.le_refl _)
                    have ow20 := own_grown hT17.grown (B.own_empty hx12 hshb10) ow14
                    have ow19 := hT17.own
                    rw [List.nil_append] at ow19
                    refine hK.out _ _ (fun _ => ((HKd.step hb18)).cells.2) ?_
                    clear hK K hT17
                    try simp only [Act.put, List.setIfInBounds_toArray, List.set_cons_zero, List.set_cons_succ]
                    obtain ⟨qa, qc, q1, q2, q3, q4⟩ := A.own_form ow20
                    obtain ⟨ra, rc, r1, r2, r3, r4⟩ := B.own_form ow19
                    subst q1 r1
                    refine wpAnyT_free (i := 12) (oi := { dst := some 83, op := Op.build 31 #[(0, Operand.tmp 77), (1, Operand.tmp 82)], type := 31, pos := "law.go:85", after := #[{ on := 6, ground := Ground.data }, { on := 11, ground := Ground.data }], guard := none }) (v := .agg #[.slice qa (n.drop k).length qc, .slice ra (t.drop j).length rc]) rfl (by kernel_rfl) (by kernel_rfl) (by kernel_rfl) (fun _ _ _ h => h) rfl (Or.inl ⟨by rfl, ?_⟩) (fun _ => ((HKd.step hb18)).cells.2) ?_
                    · intro wz _; first | (go_simp; done) | (go_simp; with_reducible rfl) | (go_simp; simp [*]; done)
                    try simp only [Act.put, List.setIfInBounds_toArray, List.set_cons_zero, List.set_cons_succ]
                    refine wpAnyT_ready (rs := [13]) (by kernel_rfl) (by simp) ?_
                    refine AllReadyT.cons (o := { dst := some 84, op := Op.call { callee := Callee.value (Operand.func 8), args := #[Operand.tmp 72, Operand.tmp 83], argTypes := #[9, 31] }, type := 28, pos := "law.go:85", after := #[{ on := 1, ground := Ground.data }, { on := 12, ground := Ground.data }, { on := 11, ground := Ground.chain }], guard := none }) rfl (fun K hK => ?_) AllReadyT.nil
                    go_simp
                    refine (enc_m FB fb HFB.out (n.drop k) (t.drop j) (n.length - k) (t.length - j) hlk hlj qa qc ra rc _ q2 r2 ⟨q3, q4⟩ ⟨r3, r4⟩ (by rw [hlk, hlj]; have := HLN.out; have := HLT.out; omega) x2 HX2.out).mono ?_
                    rintro r wz ⟨rfl, hbz⟩
                    dsimp only
                    have HKz := Lib.hid ((HKd.step hb18).step hbz)
                    clear hbz q2 r2 q3 q4 r3 r4
                    refine hK.out _ _ (fun h => absurd h (by decide)) ?_
                    clear hK K
                    try simp only [Act.put, List.setIfInBounds_toArray, List.set_cons_zero, List.set_cons_succ]
                    refine wpAnyT_free (i := 14) (oi := { dst := some 70, op := Op.move (Operand.tmp 84), type := 28, pos := "law.go:85", after := #[{ on := 13, ground := Ground.data }], guard := none }) (v := .tuple #[.string (encS x2), .int .i64 (encE x2)]) rfl (by kernel_rfl) (by kernel_rfl) (by kernel_rfl) (fun _ _ _ h => h) rfl (Or.inl ⟨by rfl, ?_⟩) (fun h => absurd h (by decide)) ?_
                    · intro wz _; first | (go_simp; done) | (go_simp; with_reducible rfl) | (go_simp; simp [*]; done)
                    try simp only [Act.put, List.setIfInBounds_toArray, List.set_cons_zero, List.set_cons_succ]
                    refine wpAnyT_free (i := 15) (oi := { dst := some 85, op := Op.extract (Operand.tmp 70) 0, type := 9, pos := "law.go:85", after := #[{ on := 14, ground := Ground.data }], guard := none }) (v := .string (encS x2)) rfl (by kernel_rfl) (by kernel_rfl) (by kernel_rfl) (fun _ _ _ h => h) rfl (Or.inl ⟨by rfl, ?_⟩) (fun h => absurd h (by decide)) ?_
                    · intro wz _; first | (go_simp; done) | (go_simp; with_reducible rfl) | (go_simp; simp [*]; done)
                    try simp only [Act.put, List.setIfInBounds_toArray, List.set_cons_zero, List.set_cons_succ]
                    refine wpAnyT_free (i := 16) (oi := { dst := some 86, op := Op.extract (Operand.tmp 70) 1, type := 27, pos := "law.go:85", after := #[{ on := 14, ground := Ground.data }, { on := 17, ground := Ground.gcOnly Departure.lateStores }], guard := none }) (v := .int .i64 (encE x2)) rfl (by kernel_rfl) (by kernel_rfl) (by kernel_rfl) (fun _ _ _ h => h) rfl (Or.inl ⟨by rfl, ?_⟩) (fun h => absurd h (by decide)) ?_
                    · intro wz _; first | (go_simp; done) | (go_simp; with_reducible rfl) | (go_simp; simp [*]; done)
                    try simp only [Act.put, List.setIfInBounds_toArray, List.set_cons_zero, List.set_cons_succ]
                    refine wpAnyT_free (i := 17) (oi := { dst := some 11, op := Op.assign (Operand.tmp 85), type := 9, pos := "law.go:85", after := #[{ on := 15, ground := Ground.data }, { on := 13, ground := Ground.chain }, { on := 0, ground := Ground.phase }, { on := 1, ground := Ground.phase }, { on := 2, ground := Ground.phase }, { on := 3, ground := Ground.phase }, { on := 4, ground := Ground.phase }, { on := 5, ground := Ground.phase }, { on := 6, ground := Ground.phase }, { on := 7, ground := Ground.phase }, { on := 8, ground := Ground.phase }, { on := 9, ground := Ground.phase }, { on := 10, ground := Ground.phase }, { on := 11, ground := Ground.phase }, { on := 12, ground := Ground.phase }, { on := 13, ground := Ground.phase }, { on := 14, ground := Ground.phase }, { on := 15, ground := Ground.phase }, { on := 16, ground := Ground.textOnly Departure.lateStores }], guard := none }) (v := .string (encS x2)) rfl (by kernel_rfl) (by kernel_rfl) (by kernel_rfl) (fun _ _ _ h => h) rfl (Or.inl ⟨by rfl, ?_⟩) (fun h => absurd h (by decide)) ?_
                    · intro wz _; first | (go_simp; done) | (go_simp; with_reducible rfl) | (go_simp; simp [*]; done)
                    try simp only [Act.put, List.setIfInBounds_toArray, List.set_cons_zero, List.set_cons_succ]
                    refine wpAnyT_free (i := 18) (oi := { dst := some 12, op := Op.assign (Operand.tmp 86), type := 27, pos := "law.go:85", after := #[{ on := 16, ground := Ground.data }, { on := 17, ground := Ground.chain }, { on := 0, ground := Ground.phase }, { on := 1, ground := Ground.phase }, { on := 2, ground := Ground.phase }, { on := 3, ground := Ground.phase }, { on := 4, ground := Ground.phase }, { on := 5, ground := Ground.phase }, { on := 6, ground := Ground.phase }, { on := 7, ground := Ground.phase }, { on := 8, ground := Ground.phase }, { on := 9, ground := Ground.phase }, { on := 10, ground := Ground.phase }, { on := 11, ground := Ground.phase }, { on := 12, ground := Ground.phase }, { on := 13, ground := Ground.phase }, { on := 14, ground := Ground.phase }, { on := 15, ground := Ground.phase }, { on := 16, ground := Ground.phase }, { on := 17, ground := Ground.phase }], guard := none }) (v := .int .i64 (encE x2)) rfl (by kernel_rfl) (by kernel_rfl) (by kernel_rfl) (fun _ _ _ h => h) rfl (Or.inl ⟨by rfl, ?_⟩) (fun h => absurd h (by decide)) ?_
                    · intro wz _; first | (go_simp; done) | (go_simp; with_reducible rfl) | (go_simp; simp [*]; done)
                    try simp only [Act.put, List.setIfInBounds_toArray, List.set_cons_zero, List.set_cons_succ]
                    refine wpAnyT_done (by kernel_rfl) ?_ _
                    refine NoPanic.normal ?_
                    go_wp2
                    go_meet
                    exact ⟨rfl, rfl, HKz.out⟩
                  refine AllReadyT.cons (o := { dst := some 78, op := Op.buildSlice 24 0 #[], type := 24, pos := "law.go:85", after := #[], guard := none }) rfl (fun K hK => ?_) AllReadyT.nil
                  go_simp
                  have hb21 := hb1.alloc hb1.size (.cells #[] 9)
                  have hx23 := heap_alloc_new wa2 (.cells #[] 9)
                  have hk25 := (Below.heap_alloc wa2 (.cells #[] 9) _ (Array.getElem?_eq_some_iff.1 hx3).1).trans hx3
                  have hshb21 := hb1.size
                  refine hK.out _ _ (fun _ => ((HKd.step hb21)).cells.2) ?_
                  clear hK K
                  generalize wa2.alloc (.cells #[] 9) = wa22 at *
                  generalize wa2.heap.size = ad24 at *
                  try simp only [Act.put, List.setIfInBounds_toArray, List.set_cons_zero, List.set_cons_succ]
                  refine wpAnyT_ready (rs := [6]) (by kernel_rfl) (by simp) ?_
                  refine AllReadyT.cons (o := { dst := some 77, op := Op.call { callee := Callee.builtin Builtin.append, args := #[Operand.tmp 73, Operand.tmp 76], argTypes := #[23, 23] }, type := 23, pos := "law.go:85", after := #[{ on := 2, ground := Ground.data }, { on := 5, ground := Ground.data }], guard := none }) rfl (fun K hK => ?_) AllReadyT.nil
                  refine stepA_m rfl (.tmp 73) (.tmp 76) (by rfl) wd.heap.size _ [] (by rfl) (A.own_empty hk25 hshb1) (aDrop aN cN k) (n.drop k) (n.length - k) (cN - k) hlk (by rfl) (ints_drop (HId.out.below hb21) cN k HCN.out.1) (by rw [hlk]; simp only [List.length_nil]; have := HLN.out; have := HLT.out; omega) hb21.size ?_
                  intro v26 wa27 hT28
                  have hb29 := hT28.below (A.own_empty hk25 hshb1) hb21 (Nat.le_refl _)
                  have hk31 := grow_keeps hT28.grown (A.own_empty hk25 hshb1) _ _ 9 _ (by decide) hx23
                  have ow30 := hT28.own
                  rw [List.nil_append] at ow30
                  refine hK.out _ _ (fun _ => ((HKd.step hb29)).cells.2) ?_
                  clear hK K hT28
                  try simp only [Act.put, List.setIfInBounds_toArray, List.set_cons_zero, List.set_cons_succ]
                  refine wpAnyT_ready (rs := [11]) (by kernel_rfl) (by simp) ?_
                  refine AllReadyT.cons (o := { dst := some 82, op := Op.call { callee := Callee.builtin Builtin.append, args := #[Operand.tmp 78, Operand.tmp 81], argTypes := #[24, 24] }, type := 24, pos := "law.go:85", after := #[{ on := 7, ground := Ground.data }, { on := 10, ground := Ground.data }, { on := 6, ground := Ground.chain }], guard := none }) rfl (fun K hK => ?_) AllReadyT.nil
                  refine stepB_m rfl (.tmp 78) (.tmp 81) (by rfl) wd.heap.size _ [] (by rfl) (B.own_empty hk31 hshb21) (aDrop aT cT j) (t.drop j) (t.length - j) (cT - j) hlj (by rfl) (ss_drop (HSd.out.below hb29) cT j HCT.out.1) (by rw [hlj]; simp only [List.length_nil]; have := HLN.out; have := HLT.out; omega) hb29.size ?_
                  intro v32 wa33 hT34
                  have hb35 := hT34.below (B.own_empty hk31 hshb21) hb29 (Nat.le_refl _)
                  have ow37 := own_grown hT34.grown (B.own_empty hk31 hshb21) ow30
                  have ow36 := hT34.own
                  rw [List.nil_append] at ow36
                  refine hK.out _ _ (fun _ => ((HKd.step hb35)).cells.2) ?_
                  clear hK K hT34
                  try simp only [Act.put, List.setIfInBounds_toArray, List.set_cons_zero, List.set_cons_succ]
                  obtain ⟨qa, qc, q1, q2, q3, q4⟩ := A.own_form ow37
                  obtain ⟨ra, rc, r1, r2, r3, r4⟩ := B.own_form ow36
                  subst q1 r1
                  refine wpAnyT_free (i := 12) (oi := { dst := some 83, op := Op.build 31 #[(0, Operand.tmp 77), (1, Operand.tmp 82)], type := 31, pos := "law.go:85", after := #[{ on := 6, ground := Ground.data }, { on := 11, ground := Ground.data }], guard := none }) (v := .agg #[.slice qa (n.drop k).length qc, .slice ra (t.drop j).length rc]) rfl (by kernel_rfl) (by kernel_rfl) (by kernel_rfl) (fun _ _ _ h => h) rfl (Or.inl ⟨by rfl, ?_⟩) (fun _ => ((HKd.step hb35)).cells.2) ?_
                  · intro wz _; first | (go_simp; done) | (go_simp; with_reducible rfl) | (go_simp; simp [*]; done)
                  try simp only [Act.put, List.setIfInBounds_toArray, List.set_cons_zero, List.set_cons_succ]
                  refine wpAnyT_ready (rs := [13]) (by kernel_rfl) (by simp) ?_
                  refine AllReadyT.cons (o := { dst := some 84, op := Op.call { callee := Callee.value (Operand.func 8), args := #[Operand.tmp 72, Operand.tmp 83], argTypes := #[9, 31] }, type := 28, pos := "law.go:85", after := #[{ on := 1, ground := Ground.data }, { on := 12, ground := Ground.data }, { on := 11, ground := Ground.chain }], guard := none }) rfl (fun K hK => ?_) AllReadyT.nil
                  go_simp
                  refine (enc_m FB fb HFB.out (n.drop k) (t.drop j) (n.length - k) (t.length - j) hlk hlj qa qc ra rc _ q2 r2 ⟨q3, q4⟩ ⟨r3, r4⟩ (by rw [hlk, hlj]; have := HLN.out; have := HLT.out; omega) x2 HX2.out).mono ?_
                  rintro r wz ⟨rfl, hbz⟩
                  dsimp only
                  have HKz := Lib.hid ((HKd.step hb35).step hbz)
                  clear hbz q2 r2 q3 q4 r3 r4
                  refine hK.out _ _ (fun h => absurd h (by decide)) ?_
                  clear hK K
                  try simp only [Act.put, List.setIfInBounds_toArray, List.set_cons_zero, List.set_cons_succ]
                  refine wpAnyT_free (i := 14) (oi := { dst := some 70, op := Op.move (Operand.tmp 84), type := 28, pos := "law.go:85", after := #[{ on := 13, ground := Ground.data }], guard := none }) (v := .tuple #[.string (encS x2), .int .i64 (encE x2)]) rfl (by kernel_rfl) (by kernel_rfl) (by kernel_rfl) (fun _ _ _ h => h) rfl (Or.inl ⟨by rfl, ?_⟩) (fun h => absurd h (by decide)) ?_
                  · intro wz _; first | (go_simp; done) | (go_simp; with_reducible rfl) | (go_simp; simp [*]; done)
                  try simp only [Act.put, List.setIfInBounds_toArray, List.set_cons_zero, List.set_cons_succ]
                  refine wpAnyT_free (i := 15) (oi := { dst := some 85, op := Op.extract (Operand.tmp 70) 0, type := 9, pos := "law.go:85", after := #[{ on := 14, ground := Ground.data }], guard := none }) (v := .string (encS x2)) rfl (by kernel_rfl) (by kernel_rfl) (by kernel_rfl) (fun _ _ _ h => h) rfl (Or.inl ⟨by rfl, ?_⟩) (fun h => absurd h (by decide)) ?_
                  · intro wz _; first | (go_simp; done) | (go_simp; with_reducible rfl) | (go_simp; simp [*]; done)
                  try simp only [Act.put, List.setIfInBounds_toArray, List.set_cons_zero, List.set_cons_succ]
                  refine wpAnyT_free (i := 16) (oi := { dst := some 86, op := Op.extract (Operand.tmp 70) 1, type := 27, pos := "law.go:85", after := #[{ on := 14, ground := Ground.data }, { on := 17, ground := Ground.gcOnly Departure.lateStores }], guard := none }) (v := .int .i64 (encE x2)) rfl (by kernel_rfl) (by kernel_rfl) (by kernel_rfl) (fun _ _ _ h => h) rfl (Or.inl ⟨by rfl, ?_⟩) (fun h => absurd h (by decide)) ?_
                  · intro wz _; first | (go_simp; done) | (go_simp; with_reducible rfl) | (go_simp; simp [*]; done)
                  try simp only [Act.put, List.setIfInBounds_toArray, List.set_cons_zero, List.set_cons_succ]
                  refine wpAnyT_free (i := 17) (oi := { dst := some 11, op := Op.assign (Operand.tmp 85), type := 9, pos := "law.go:85", after := #[{ on := 15, ground := Ground.data }, { on := 13, ground := Ground.chain }, { on := 0, ground := Ground.phase }, { on := 1, ground := Ground.phase }, { on := 2, ground := Ground.phase }, { on := 3, ground := Ground.phase }, { on := 4, ground := Ground.phase }, { on := 5, ground := Ground.phase }, { on := 6, ground := Ground.phase }, { on := 7, ground := Ground.phase }, { on := 8, ground := Ground.phase }, { on := 9, ground := Ground.phase }, { on := 10, ground := Ground.phase }, { on := 11, ground := Ground.phase }, { on := 12, ground := Ground.phase }, { on := 13, ground := Ground.phase }, { on := 14, ground := Ground.phase }, { on := 15, ground := Ground.phase }, { on := 16, ground := Ground.textOnly Departure.lateStores }], guard := none }) (v := .string (encS x2)) rfl (by kernel_rfl) (by kernel_rfl) (by kernel_rfl) (fun _ _ _ h => h) rfl (Or.inl ⟨by rfl, ?_⟩) (fun h => absurd h (by decide)) ?_
                  · intro wz _; first | (go_simp; done) | (go_simp; with_reducible rfl) | (go_simp; simp [*]; done)
                  try simp only [Act.put, List.setIfInBounds_toArray, List.set_cons_zero, List.set_cons_succ]
                  refine wpAnyT_free (i := 18) (oi := { dst := some 12, op := Op.assign (Operand.tmp 86), type := 27, pos := "law.go:85", after := #[{ on := 16, ground := Ground.data }, { on := 17, ground := Ground.chain }, { on := 0, ground := Ground.phase }, { on := 1, ground := Ground.phase }, { on := 2, ground := Ground.phase }, { on := 3, ground := Ground.phase }, { on := 4, ground := Ground.phase }, { on := 5, ground := Ground.phase }, { on := 6, ground := Ground.phase }, { on := 7, ground := Ground.phase }, { on := 8, ground := Ground.phase }, { on := 9, ground := Ground.phase }, { on := 10, ground := Ground.phase }, { on := 11, ground := Ground.phase }, { on := 12, ground := Ground.phase }, { on := 13, ground := Ground.phase }, { on := 14, ground := Ground.phase }, { on := 15, ground := Ground.phase }, { on := 16, ground := Ground.phase }, { on := 17, ground := Ground.phase }], guard := none }) (v := .int .i64 (encE x2)) rfl (by kernel_rfl) (by kernel_rfl) (by kernel_rfl) (fun _ _ _ h => h) rfl (Or.inl ⟨by rfl, ?_⟩) (fun h => absurd h (by decide)) ?_
                  · intro wz _; first | (go_simp; done) | (go_simp; with_reducible rfl) | (go_simp; simp [*]; done)
                  try simp only [Act.put, List.setIfInBounds_toArray, List.set_cons_zero, List.set_cons_succ]
                  refine wpAnyT_done (by kernel_rfl) ?_ _
                  refine NoPanic.normal ?_
                  go_wp2
                  go_meet
                  exact ⟨rfl, rfl, HKz.out⟩
                refine AllReadyT.cons (o := { dst := some 78, op := Op.buildSlice 24 0 #[], type := 24, pos := "law.go:85", after := #[], guard := none }) rfl (fun K hK => ?_) AllReadyT.nil
                go_simp
                have hb38 := hb0.alloc hb0.size (.cells #[] 9)
                have hx40 := heap_alloc_new wd (.cells #[] 9)
                have hshb38 := hb0.size
                refine hK.out _ _ (fun _ => ((HKd.step hb38)).cells.2) ?_
                clear hK K
                generalize wd.alloc (.cells #[] 9) = wa39 at *
                try simp only [Act.put, List.setIfInBounds_toArray, List.set_cons_zero, List.set_cons_succ]
                refine wpAnyT_ready (rs := [2]) (by kernel_rfl) (by simp) ?_
                refine AllReadyT.cons (o := { dst := some 73, op := Op.buildSlice 23 0 #[], type := 23, pos := "law.go:85", after := #[], guard := none }) rfl (fun K hK => ?_) AllReadyT.nil
                go_simp
                have hb42 := hb38.alloc hb38.size (.cells #[] 3)
                have hx44 := heap_alloc_new wa39 (.cells #[] 3)
                have hk46 := (Below.heap_alloc wa39 (.cells #[] 3) _ (Array.getElem?_eq_some_iff.1 hx40).1).trans hx40
                have hshb42 := hb38.size
                refine hK.out _ _ (fun _ => ((HKd.step hb42)).cells.2) ?_
                clear hK K
                generalize wa39.alloc (.cells #[] 3) = wa43 at *
                generalize wa39.heap.size = ad45 at *
                try simp only [Act.put, List.setIfInBounds_toArray, List.set_cons_zero, List.set_cons_succ]
                refine wpAnyT_ready (rs := [6]) (by kernel_rfl) (by simp) ?_
                refine AllReadyT.cons (o := { dst := some 77, op := Op.call { callee := Callee.builtin Builtin.append, args := #[Operand.tmp 73, Operand.tmp 76], argTypes := #[23, 23] }, type := 23, pos := "law.go:85", after := #[{ on := 2, ground := Ground.data }, { on := 5, ground := Ground.data }], guard := none }) rfl (fun K hK => ?_) AllReadyT.nil
                refine stepA_m rfl (.tmp 73) (.tmp 76) (by rfl) wd.heap.size _ [] (by rfl) (A.own_empty hx44 hshb42) (aDrop aN cN k) (n.drop k) (n.length - k) (cN - k) hlk (by rfl) (ints_drop (HId.out.below hb42) cN k HCN.out.1) (by rw [hlk]; simp only [List.length_nil]; have := HLN.out; have := HLT.out; omega) hb42.size ?_
                intro v47 wa48 hT49
                have hb50 := hT49.below (A.own_empty hx44 hshb42) hb42 (Nat.le_refl _)
                have hk52 := grow_keeps hT49.grown (A.own_empty hx44 hshb42) _ _ 9 _ (by decide) hk46
                have ow51 := hT49.own
                rw [List.nil_append] at ow51
                refine hK.out _ _ (fun _ => ((HKd.step hb50)).cells.2) ?_
                clear hK K hT49
                try simp only [Act.put, List.setIfInBounds_toArray, List.set_cons_zero, List.set_cons_succ]
                refine wpAnyT_ready (rs := [11]) (by kernel_rfl) (by simp) ?_
                refine AllReadyT.cons (o := { dst := some 82, op := Op.call { callee := Callee.builtin Builtin.append, args := #[Operand.tmp 78, Operand.tmp 81], argTypes := #[24, 24] }, type := 24, pos := "law.go:85", after := #[{ on := 7, ground := Ground.data }, { on := 10, ground := Ground.data }, { on := 6, ground := Ground.chain }], guard := none }) rfl (fun K hK => ?_) AllReadyT.nil
                refine stepB_m rfl (.tmp 78) (.tmp 81) (by rfl) wd.heap.size _ [] (by rfl) (B.own_empty hk52 hshb38) (aDrop aT cT j) (t.drop j) (t.length - j) (cT - j) hlj (by rfl) (ss_drop (HSd.out.below hb50) cT j HCT.out.1) (by rw [hlj]; simp only [List.length_nil]; have := HLN.out; have := HLT.out; omega) hb50.size ?_
                intro v53 wa54 hT55
                have hb56 := hT55.below (B.own_empty hk52 hshb38) hb50 (Nat.le_refl _)
                have ow58 := own_grown hT55.grown (B.own_empty hk52 hshb38) ow51
                have ow57 := hT55.own
                rw [List.nil_append] at ow57
                refine hK.out _ _ (fun _ => ((HKd.step hb56)).cells.2) ?_
                clear hK K hT55
                try simp only [Act.put, List.setIfInBounds_toArray, List.set_cons_zero, List.set_cons_succ]
                obtain ⟨qa, qc, q1, q2, q3, q4⟩ := A.own_form ow58
                obtain ⟨ra, rc, r1, r2, r3, r4⟩ := B.own_form ow57
                subst q1 r1
                refine wpAnyT_free (i := 12) (oi := { dst := some 83, op := Op.build 31 #[(0, Operand.tmp 77), (1, Operand.tmp 82)], type := 31, pos := "law.go:85", after := #[{ on := 6, ground := Ground.data }, { on := 11, ground := Ground.data }], guard := none }) (v := .agg #[.slice qa (n.drop k).length qc, .slice ra (t.drop j).length rc]) rfl (by kernel_rfl) (by kernel_rfl) (by kernel_rfl) (fun _ _ _ h => h) rfl (Or.inl ⟨by rfl, ?_⟩) (fun _ => ((HKd.step hb56)).cells.2) ?_
                · intro wz _; first | (go_simp; done) | (go_simp; with_reducible rfl) | (go_simp; simp [*]; done)
                try simp only [Act.put, List.setIfInBounds_toArray, List.set_cons_zero, List.set_cons_succ]
                refine wpAnyT_ready (rs := [13]) (by kernel_rfl) (by simp) ?_
                refine AllReadyT.cons (o := { dst := some 84, op := Op.call { callee := Callee.value (Operand.func 8), args := #[Operand.tmp 72, Operand.tmp 83], argTypes := #[9, 31] }, type := 28, pos := "law.go:85", after := #[{ on := 1, ground := Ground.data }, { on := 12, ground := Ground.data }, { on := 11, ground := Ground.chain }], guard := none }) rfl (fun K hK => ?_) AllReadyT.nil
                go_simp
                refine (enc_m FB fb HFB.out (n.drop k) (t.drop j) (n.length - k) (t.length - j) hlk hlj qa qc ra rc _ q2 r2 ⟨q3, q4⟩ ⟨r3, r4⟩ (by rw [hlk, hlj]; have := HLN.out; have := HLT.out; omega) x2 HX2.out).mono ?_
                rintro r wz ⟨rfl, hbz⟩
                dsimp only
                have HKz := Lib.hid ((HKd.step hb56).step hbz)
                clear hbz q2 r2 q3 q4 r3 r4
                refine hK.out _ _ (fun h => absurd h (by decide)) ?_
                clear hK K
                try simp only [Act.put, List.setIfInBounds_toArray, List.set_cons_zero, List.set_cons_succ]
                refine wpAnyT_free (i := 14) (oi := { dst := some 70, op := Op.move (Operand.tmp 84), type := 28, pos := "law.go:85", after := #[{ on := 13, ground := Ground.data }], guard := none }) (v := .tuple #[.string (encS x2), .int .i64 (encE x2)]) rfl (by kernel_rfl) (by kernel_rfl) (by kernel_rfl) (fun _ _ _ h => h) rfl (Or.inl ⟨by rfl, ?_⟩) (fun h => absurd h (by decide)) ?_
                · intro wz _; first | (go_simp; done) | (go_simp; with_reducible rfl) | (go_simp; simp [*]; done)
                try simp only [Act.put, List.setIfInBounds_toArray, List.set_cons_zero, List.set_cons_succ]
                refine wpAnyT_free (i := 15) (oi := { dst := some 85, op := Op.extract (Operand.tmp 70) 0, type := 9, pos := "law.go:85", after := #[{ on := 14, ground := Ground.data }], guard := none }) (v := .string (encS x2)) rfl (by kernel_rfl) (by kernel_rfl) (by kernel_rfl) (fun _ _ _ h => h) rfl (Or.inl ⟨by rfl, ?_⟩) (fun h => absurd h (by decide)) ?_
                · intro wz _; first | (go_simp; done) | (go_simp; with_reducible rfl) | (go_simp; simp [*]; done)
                try simp only [Act.put, List.setIfInBounds_toArray, List.set_cons_zero, List.set_cons_succ]
                refine wpAnyT_free (i := 16) (oi := { dst := some 86, op := Op.extract (Operand.tmp 70) 1, type := 27, pos := "law.go:85", after := #[{ on := 14, ground := Ground.data }, { on := 17, ground := Ground.gcOnly Departure.lateStores }], guard := none }) (v := .int .i64 (encE x2)) rfl (by kernel_rfl) (by kernel_rfl) (by kernel_rfl) (fun _ _ _ h => h) rfl (Or.inl ⟨by rfl, ?_⟩) (fun h => absurd h (by decide)) ?_
                · intro wz _; first | (go_simp; done) | (go_simp; with_reducible rfl) | (go_simp; simp [*]; done)
                try simp only [Act.put, List.setIfInBounds_toArray, List.set_cons_zero, List.set_cons_succ]
                refine wpAnyT_free (i := 17) (oi := { dst := some 11, op := Op.assign (Operand.tmp 85), type := 9, pos := "law.go:85", after := #[{ on := 15, ground := Ground.data }, { on := 13, ground := Ground.chain }, { on := 0, ground := Ground.phase }, { on := 1, ground := Ground.phase }, { on := 2, ground := Ground.phase }, { on := 3, ground := Ground.phase }, { on := 4, ground := Ground.phase }, { on := 5, ground := Ground.phase }, { on := 6, ground := Ground.phase }, { on := 7, ground := Ground.phase }, { on := 8, ground := Ground.phase }, { on := 9, ground := Ground.phase }, { on := 10, ground := Ground.phase }, { on := 11, ground := Ground.phase }, { on := 12, ground := Ground.phase }, { on := 13, ground := Ground.phase }, { on := 14, ground := Ground.phase }, { on := 15, ground := Ground.phase }, { on := 16, ground := Ground.textOnly Departure.lateStores }], guard := none }) (v := .string (encS x2)) rfl (by kernel_rfl) (by kernel_rfl) (by kernel_rfl) (fun _ _ _ h => h) rfl (Or.inl ⟨by rfl, ?_⟩) (fun h => absurd h (by decide)) ?_
                · intro wz _; first | (go_simp; done) | (go_simp; with_reducible rfl) | (go_simp; simp [*]; done)
                try simp only [Act.put, List.setIfInBounds_toArray, List.set_cons_zero, List.set_cons_succ]
                refine wpAnyT_free (i := 18) (oi := { dst := some 12, op := Op.assign (Operand.tmp 86), type := 27, pos := "law.go:85", after := #[{ on := 16, ground := Ground.data }, { on := 17, ground := Ground.chain }, { on := 0, ground := Ground.phase }, { on := 1, ground := Ground.phase }, { on := 2, ground := Ground.phase }, { on := 3, ground := Ground.phase }, { on := 4, ground := Ground.phase }, { on := 5, ground := Ground.phase }, { on := 6, ground := Ground.phase }, { on := 7, ground := Ground.phase }, { on := 8, ground := Ground.phase }, { on := 9, ground := Ground.phase }, { on := 10, ground := Ground.phase }, { on := 11, ground := Ground.phase }, { on := 12, ground := Ground.phase }, { on := 13, ground := Ground.phase }, { on := 14, ground := Ground.phase }, { on := 15, ground := Ground.phase }, { on := 16, ground := Ground.phase }, { on := 17, ground := Ground.phase }], guard := none }) (v := .int .i64 (encE x2)) rfl (by kernel_rfl) (by kernel_rfl) (by kernel_rfl) (fun _ _ _ h => h) rfl (Or.inl ⟨by rfl, ?_⟩) (fun h => absurd h (by decide)) ?_
                · intro wz _; first | (go_simp; done) | (go_simp; with_reducible rfl) | (go_simp; simp [*]; done)
                try simp only [Act.put, List.setIfInBounds_toArray, List.set_cons_zero, List.set_cons_succ]
                refine wpAnyT_done (by kernel_rfl) ?_ _
                refine NoPanic.normal ?_
                go_wp2
                go_meet
                exact ⟨rfl, rfl, HKz.out⟩
              case rest =>
              obtain ⟨rfl, rfl, hkr⟩ := hcut
              have HKB := Lib.hid hkr
              clear hkr HKA
              rcases enc_two HX1.out with h1 | ⟨h1, b1, hb1, hs1, hl1⟩
              · have hn1 : (encE x1 != 0) = true := by simpa using h1
                clear HX1 HX2
                generalize encE x1 = E1 at *
                generalize encS x1 = S1 at *
                generalize encE x2 = E2 at *
                generalize encS x2 = S2 at *
                go_wp2
                exact ⟨⟨j + 1, by omega, by omega, by go_num, HKB.out⟩, by simp [intOf]; omega⟩
              · rcases enc_two HX2.out with h2 | ⟨h2, b2, hb2, hs2, hl2⟩
                · have hn2 : (encE x2 != 0) = true := by simpa using h2
                  rw [h1]
                  clear HX1 HX2 h1 hs1 hb1
                  generalize encS x1 = S1 at *
                  generalize encE x2 = E2 at *
                  generalize encS x2 = S2 at *
                  go_wp2
                  exact ⟨⟨j + 1, by omega, by omega, by go_num, HKB.out⟩, by simp [intOf]; omega⟩
                · have hz1 : (encS x1).size = b1.length := by rw [hs1]; show b1.toArray.size = _; simp
                  have hz2 : (encS x2).size = b2.length := by rw [hs2]; show b2.toArray.size = _; simp
                  rw [h1, h2]
                  have HB1 := Lib.hid (show encO fa (n.take k) (t.take j) = .ok b1 from HX1.out.trans hb1)
                  have HB2 := Lib.hid (show encO fb (n.drop k) (t.drop j) = .ok b2 from HX2.out.trans hb2)
                  have HS1 := Lib.hid hs1
                  have HS2 := Lib.hid hs2
                  clear HX1 HX2 h1 h2 hb1 hb2 hs1 hs2
                  generalize encS x1 = S1 at *
                  generalize encS x2 = S2 at *
                  have hwz : IntKind.i64.wrap ((S1.size : Int) + (S2.size : Int)) = (S1.size : Int) + (S2.size : Int) := IntWalk.i64_in _ (by omega)
                  by_cases hbg : 65536 < S1.size + S2.size
                  · have hs : decide ((65536 : Int) < (S1.size : Int) + (S2.size : Int)) = true := decide_eq_true (by omega)
                    go_wp2
                    exact ⟨⟨j + 1, by omega, by omega, by go_num, HKB.out⟩, by simp [intOf]; omega⟩
                  · have hs : decide ((65536 : Int) < (S1.size : Int) + (S2.size : Int)) = false := decide_eq_false (by omega)
                    have HZ := Lib.hid (show S1.size + S2.size ≤ 65536 by omega)
                    have hx3 : encO (fa ++ fb) n t = .ok (b1 ++ b2) := by
                      have h := enc_cat HB1.out HB2.out HBIG.out (by omega)
                      rw [List.take_append_drop, List.take_append_drop] at h
                      exact h
                    obtain ⟨x3, hx3e⟩ : ∃ x : Except Int (List UInt8), x = .ok (b1 ++ b2) := ⟨_, rfl⟩
                    have HX3 := Lib.hid (show encO (fa ++ fb) n t = x3 from hx3.trans hx3e.symm)
                    have HV3 := Lib.hid (show encE x3 = 0 ∧ encS x3 = S1 ++ S2 from by
                      rw [hx3e, HS1.out, HS2.out, cat_bytes]
                      exact ⟨rfl, rfl⟩)
                    have HFAB := Lib.hid (show FA ++ FB = ⟨(fa ++ fb).toArray⟩ from by rw [HFA.out, HFB.out, cat_bytes])
                    clear hx3 hx3e HB1 HB2 HS1 HS2 hz1 hz2 hl1 hl2
                    go_upto_region 14 with (fail)
                    go_cut [13, 14] from 43 to 125 (fun s e wx => s = .string (encS x3) ∧ e = .int .i64 (encE x3) ∧ Kr w X FA FB wx)
                    case first =>
                      have HIQ : A.IntsAt wc aN n := HIN.out.below HKB.out.low
                      have HSQ : B.SsAt wc aT t := HIT.out.below HKB.out.low
                      have HKJ0 := HKB.out
                      have hlk : n.length = n.length := rfl
                      have hlj : t.length = t.length := rfl
                      refine wp_region_noPanic ?_
                      have HKd := HKJ0.drew
                      have HId := Lib.hid (show A.IntsAt wc.drew aN n from fun i hi => HIQ i hi)
                      have HSd := Lib.hid (show B.SsAt wc.drew aT t from fun i hi => HSQ i hi)
                      refine wp_region_till (C := fun w' => w'.cell? ⟨X, 0, none⟩ = some (.string FA) ∧ w'.cell? ⟨X, 1, none⟩ = some (.string FB)) (st := 12) (by kernel_rfl) ?_
                      clear HIQ HSQ HKJ0
                      generalize wc.drew = wd at *
                      have hb0 := Below.refl wd.heap.size wd
                      refine wpAnyT_free (i := 0) (oi := { dst := some 102, op := Op.indexAddr 22 (Operand.tmp 3) (Operand.const (Value.int IntKind.i64 0)), type := 0, pos := "law.go:89", after := #[], guard := none }) (v := .pointer (some ⟨X, 0, none⟩)) rfl (by kernel_rfl) (by kernel_rfl) (by kernel_rfl) (fun _ _ _ h => h) rfl (Or.inl ⟨by rfl, ?_⟩) (fun _ => ((HKd.step hb0)).cells) ?_
                      · intro wz _; first | (go_simp; done) | (go_simp; with_reducible rfl) | (go_simp; simp [*]; done)
                      try simp only [Act.put, List.setIfInBounds_toArray, List.set_cons_zero, List.set_cons_succ]
                      refine wpAnyT_take2 4 (i := 1) (oi := { dst := some 103, op := Op.load 9 (Operand.tmp 102), type := 9, pos := "law.go:89", after := #[{ on := 0, ground := Ground.data }], guard := none }) (v := .string FA) rfl (by kernel_rfl) (by kernel_rfl) (by kernel_rfl) (fun _ _ _ h => h) rfl (by kernel_rfl) (by kernel_rfl) (by kernel_rfl) ⟨by kernel_rfl, by simp⟩ (Or.inl ⟨by rfl, ?_⟩) (((HKd.step hb0)).cells) ?_
                      · intro wz hSw; (try dsimp only at hSw); first | (go_simp; simp [hSw]; done) | (go_simp; simp [hSw.1]; done) | (go_simp; simp [hSw.2]; done) | (go_simp; done)
                      try simp only [Act.put, List.setIfInBounds_toArray, List.set_cons_zero, List.set_cons_succ]
                      refine wpAnyT_free (i := 2) (oi := { dst := some 104, op := Op.indexAddr 22 (Operand.tmp 3) (Operand.const (Value.int IntKind.i64 1)), type := 0, pos := "law.go:89", after := #[], guard := none }) (v := .pointer (some ⟨X, 1, none⟩)) rfl (by kernel_rfl) (by kernel_rfl) (by kernel_rfl) (fun _ _ _ h => h) rfl (Or.inl ⟨by rfl, ?_⟩) (fun _ => ((HKd.step hb0)).cells) ?_
                      · intro wz _; first | (go_simp; done) | (go_simp; with_reducible rfl) | (go_simp; simp [*]; done)
                      try simp only [Act.put, List.setIfInBounds_toArray, List.set_cons_zero, List.set_cons_succ]
                      refine wpAnyT_take2 4 (i := 3) (oi := { dst := some 105, op := Op.load 9 (Operand.tmp 104), type := 9, pos := "law.go:89", after := #[{ on := 2, ground := Ground.data }], guard := none }) (v := .string FB) rfl (by kernel_rfl) (by kernel_rfl) (by kernel_rfl) (fun _ _ _ h => h) rfl (by kernel_rfl) (by kernel_rfl) (by kernel_rfl) ⟨by kernel_rfl, by simp⟩ (Or.inl ⟨by rfl, ?_⟩) (((HKd.step hb0)).cells) ?_
                      · intro wz hSw; (try dsimp only at hSw); first | (go_simp; simp [hSw]; done) | (go_simp; simp [hSw.1]; done) | (go_simp; simp [hSw.2]; done) | (go_simp; done)
                      try simp only [Act.put, List.setIfInBounds_toArray, List.set_cons_zero, List.set_cons_succ]
                      refine wpAnyT_free (i := 4) (oi := { dst := some 106, op := Op.binOp BinOp.add 9 (Operand.tmp 103) (Operand.tmp 105) 9, type := 9, pos := "law.go:89", after := #[{ on := 1, ground := Ground.data }, { on := 3, ground := Ground.data }], guard := none }) (v := .string (FA ++ FB)) rfl (by kernel_rfl) (by kernel_rfl) (by kernel_rfl) (fun _ _ _ h => h) rfl (Or.inl ⟨by rfl, ?_⟩) (fun _ => ((HKd.step hb0)).cells) ?_
                      · intro wz _; go_simp; have := HBIG.out; have := HSA.out; have := HSB.out; omega
                      try simp only [Act.put, List.setIfInBounds_toArray, List.set_cons_zero, List.set_cons_succ]
                      refine wpAnyT_free (i := 6) (oi := { dst := some 108, op := Op.move (Operand.tmp 1), type := 23, pos := "law.go:89", after := #[], guard := none }) (v := .slice aN n.length cN) rfl (by kernel_rfl) (by kernel_rfl) (by kernel_rfl) (fun _ _ _ h => h) rfl (Or.inl ⟨by rfl, ?_⟩) (fun _ => ((HKd.step hb0)).cells) ?_
                      · intro wz _; first | (go_simp; done) | (go_simp; with_reducible rfl) | (go_simp; simp [*]; done)
                      try simp only [Act.put, List.setIfInBounds_toArray, List.set_cons_zero, List.set_cons_succ]
                      refine wpAnyT_free (i := 9) (oi := { dst := some 111, op := Op.move (Operand.tmp 2), type := 24, pos := "law.go:89", after := #[], guard := none }) (v := .slice aT t.length cT) rfl (by kernel_rfl) (by kernel_rfl) (by kernel_rfl) (fun _ _ _ h => h) rfl (Or.inl ⟨by rfl, ?_⟩) (fun _ => ((HKd.step hb0)).cells) ?_
                      · intro wz _; first | (go_simp; done) | (go_simp; with_reducible rfl) | (go_simp; simp [*]; done)
                      try simp only [Act.put, List.setIfInBounds_toArray, List.set_cons_zero, List.set_cons_succ]
                      refine wpAnyT_ready (rs := [5, 8]) (by kernel_rfl) (by simp) ?_
                      refine AllReadyT.cons (o := { dst := some 107, op := Op.buildSlice 23 0 #[], type := 23, pos := "law.go:89", after := #[], guard := none }) rfl (fun K hK => ?_) ?_
                      · go_simp
                        have hb1 := hb0.alloc hb0.size (.cells #[] 3)
                        have hx3 := heap_alloc_new wd (.cells #[] 3)
                        have hshb1 := hb0.size
                        refine hK.out _ _ (fun _ => ((HKd.step hb1)).cells) ?_
                        clear hK K
                        generalize wd.alloc (.cells #[] 3) = wa2 at *
                        try simp only [Act.put, List.setIfInBounds_toArray, List.set_cons_zero, List.set_cons_succ]
                        refine wpAnyT_ready (rs := [7, 8]) (by kernel_rfl) (by simp) ?_
                        refine AllReadyT.cons (o := { dst := some 109, op := Op.call { callee := Callee.builtin Builtin.append, args := #[Operand.tmp 107, Operand.tmp 108], argTypes := #[23, 23] }, type := 23, pos := "law.go:89", after := #[{ on := 5, ground := Ground.data }, { on := 6, ground := Ground.data }], guard := none }) rfl (fun K hK => ?_) ?_
                        · refine stepA_m rfl (.tmp 107) (.tmp 108) (by rfl) wd.heap.size _ [] (by rfl) (A.own_empty hx3 hshb1) aN (n) n.length cN rfl (by rfl) (HId.out.below hb1) (by simp only [List.length_nil]; have := HLN.out; have := HLT.out; omega) hb1.size ?_
                          intro v5 wa6 hT7
                          have hb8 := hT7.below (A.own_empty hx3 hshb1) hb1 (Nat.le_refl _)
                          have ow9 := hT7.own
                          rw [List.nil_append] at ow9
                          refine hK.out _ _ (fun _ => ((HKd.step hb8)).cells) ?_
                          clear hK K hT7
                          try simp only [Act.put, List.setIfInBounds_toArray, List.set_cons_zero, List.set_cons_succ]
                          refine wpAnyT_ready (rs := [8]) (by kernel_rfl) (by simp) ?_
                          refine AllReadyT.cons (o := { dst := some 110, op := Op.buildSlice 24 0 #[], type := 24, pos := "law.go:89", after := #[], guard := none }) rfl (fun K hK => ?_) AllReadyT.nil
                          go_simp
                          have hb10 := hb8.alloc hb8.size (.cells #[] 9)
                          have hx12 := heap_alloc_new wa6 (.cells #[] 9)
                          have ow14 := World.ownsRow.alloc ow9 (.cells #[] 9)
                          have hshb10 := hb8.size
                          refine hK.out _ _ (fun _ => ((HKd.step hb10)).cells) ?_
                          clear hK K
                          generalize wa6.alloc (.cells #[] 9) = wa11 at *
                          generalize wa6.heap.size = ad13 at *
                          try simp only [Act.put, List.setIfInBounds_toArray, List.set_cons_zero, List.set_cons_succ]
                          refine wpAnyT_ready (rs := [10]) (by kernel_rfl) (by simp) ?_
                          refine AllReadyT.cons (o := { dst := some 112, op := Op.call { callee := Callee.builtin Builtin.append, args := #[Operand.tmp 110, Operand.tmp 111], argTypes := #[24, 24] }, type := 24, pos := "law.go:89", after := #[{ on := 8, ground := Ground.data }, { on := 9, ground := Ground.data }, { on := 7, ground := Ground.chain }], guard := none }) rfl (fun K hK => ?_) AllReadyT.nil
                          refine stepB_m rfl (.tmp 110) (.tmp 111) (by rfl) wd.heap.size _ [] (by rfl) (B.own_empty hx12 hshb10) aT (t) t.length cT rfl (by rfl) (HSd.out.below hb10) (by simp only [List.length_nil]; have := HLN.out; have := HLT.out; omega) hb10.size ?_
                          intro v15 wa16 hT17
                          have hb18 := hT17.below (B.own_empty hx12 hshb10) hb10 (Nat.le_refl _)
                          have ow20 := own_grown hT17.grown (B.own_empty hx12 hshb10) ow14
                          have ow19 := hT17.own
                          rw [List.nil_append] at ow19
                          refine hK.out _ _ (fun _ => ((HKd.step hb18)).cells) ?_
                          clear hK K hT17
                          try simp only [Act.put, List.setIfInBounds_toArray, List.set_cons_zero, List.set_cons_succ]
                          obtain ⟨qa, qc, q1, q2, q3, q4⟩ := A.own_form ow20
                          obtain ⟨ra, rc, r1, r2, r3, r4⟩ := B.own_form ow19
                          subst q1 r1
                          refine wpAnyT_free (i := 11) (oi := { dst := some 113, op := Op.build 31 #[(0, Operand.tmp 109), (1, Operand.tmp 112)], type := 31, pos := "law.go:89", after := #[{ on := 7, ground := Ground.data }, { on := 10, ground := Ground.data }], guard := none }) (v := .agg #[.slice qa (n).length qc, .slice ra (t).length rc]) rfl (by kernel_rfl) (by kernel_rfl) (by kernel_rfl) (fun _ _ _ h => h) rfl (Or.inl ⟨by rfl, ?_⟩) (fun _ => ((HKd.step hb18)).cells) ?_
                          · intro wz _; first | (go_simp; done) | (go_simp; with_reducible rfl) | (go_simp; simp [*]; done)
                          try simp only [Act.put, List.setIfInBounds_toArray, List.set_cons_zero, List.set_cons_succ]
                          refine wpAnyT_ready (rs := [12]) (by kernel_rfl) (by simp) ?_
                          refine AllReadyT.cons (o := { dst := some 114, op := Op.call { callee := Callee.value (Operand.func 8), args := #[Operand.tmp 106, Operand.tmp 113], argTypes := #[9, 31] }, type := 28, pos := "law.go:89", after := #[{ on := 4, ground := Ground.data }, { on := 11, ground := Ground.data }, { on := 10, ground := Ground.chain }], guard := none }) rfl (fun K hK => ?_) AllReadyT.nil
                          go_simp
                          refine (enc_m (FA ++ FB) (fa ++ fb) HFAB.out (n) (t) n.length t.length hlk hlj qa qc ra rc _ q2 r2 ⟨q3, q4⟩ ⟨r3, r4⟩ (by have := HLN.out; have := HLT.out; omega) x3 HX3.out).mono ?_
                          rintro r wz ⟨rfl, hbz⟩
                          dsimp only
                          have HKz := Lib.hid ((HKd.step hb18).step hbz)
                          clear hbz q2 r2 q3 q4 r3 r4
                          refine hK.out _ _ (fun h => absurd h (by decide)) ?_
                          clear hK K
                          try simp only [Act.put, List.setIfInBounds_toArray, List.set_cons_zero, List.set_cons_succ]
                          refine wpAnyT_free (i := 13) (oi := { dst := some 101, op := Op.move (Operand.tmp 114), type := 28, pos := "law.go:89", after := #[{ on := 12, ground := Ground.data }], guard := none }) (v := .tuple #[.string (encS x3), .int .i64 (encE x3)]) rfl (by kernel_rfl) (by kernel_rfl) (by kernel_rfl) (fun _ _ _ h => h) rfl (Or.inl ⟨by rfl, ?_⟩) (fun h => absurd h (by decide)) ?_
                          · intro wz _; first | (go_simp; done) | (go_simp; with_reducible rfl) | (go_simp; simp [*]; done)
                          try simp only [Act.put, List.setIfInBounds_toArray, List.set_cons_zero, List.set_cons_succ]
                          refine wpAnyT_free (i := 14) (oi := { dst := some 115, op := Op.extract (Operand.tmp 101) 0, type := 9, pos := "law.go:89", after := #[{ on := 13, ground := Ground.data }], guard := none }) (v := .string (encS x3)) rfl (by kernel_rfl) (by kernel_rfl) (by kernel_rfl) (fun _ _ _ h => h) rfl (Or.inl ⟨by rfl, ?_⟩) (fun h => absurd h (by decide)) ?_
                          · intro wz _; first | (go_simp; done) | (go_simp; with_reducible rfl) | (go_simp; simp [*]; done)
                          try simp only [Act.put, List.setIfInBounds_toArray, List.set_cons_zero, List.set_cons_succ]
                          refine wpAnyT_free (i := 15) (oi := { dst := some 116, op := Op.extract (Operand.tmp 101) 1, type := 27, pos := "law.go:89", after := #[{ on := 13, ground := Ground.data }, { on := 16, ground := Ground.gcOnly Departure.lateStores }], guard := none }) (v := .int .i64 (encE x3)) rfl (by kernel_rfl) (by kernel_rfl) (by kernel_rfl) (fun _ _ _ h => h) rfl (Or.inl ⟨by rfl, ?_⟩) (fun h => absurd h (by decide)) ?_
                          · intro wz _; first | (go_simp; done) | (go_simp; with_reducible rfl) | (go_simp; simp [*]; done)
                          try simp only [Act.put, List.setIfInBounds_toArray, List.set_cons_zero, List.set_cons_succ]
                          refine wpAnyT_free (i := 16) (oi := { dst := some 13, op := Op.assign (Operand.tmp 115), type := 9, pos := "law.go:89", after := #[{ on := 14, ground := Ground.data }, { on := 12, ground := Ground.chain }, { on := 0, ground := Ground.phase }, { on := 1, ground := Ground.phase }, { on := 2, ground := Ground.phase }, { on := 3, ground := Ground.phase }, { on := 4, ground := Ground.phase }, { on := 5, ground := Ground.phase }, { on := 6, ground := Ground.phase }, { on := 7, ground := Ground.phase }, { on := 8, ground := Ground.phase }, { on := 9, ground := Ground.phase }, { on := 10, ground := Ground.phase }, { on := 11, ground := Ground.phase }, { on := 12, ground := Ground.phase }, { on := 13, ground := Ground.phase }, { on := 14, ground := Ground.phase }, { on := 15, ground := Ground.textOnly Departure.lateStores }], guard := none }) (v := .string (encS x3)) rfl (by kernel_rfl) (by kernel_rfl) (by kernel_rfl) (fun _ _ _ h => h) rfl (Or.inl ⟨by rfl, ?_⟩) (fun h => absurd h (by decide)) ?_
                          · intro wz _; first | (go_simp; done) | (go_simp; with_reducible rfl) | (go_simp; simp [*]; done)
                          try simp only [Act.put, List.setIfInBounds_toArray, List.set_cons_zero, List.set_cons_succ]
                          refine wpAnyT_free (i := 17) (oi := { dst := some 14, op := Op.assign (Operand.tmp 116), type := 27, pos := "law.go:89", after := #[{ on := 15, ground := Ground.data }, { on := 16, ground := Ground.chain }, { on := 0, ground := Ground.phase }, { on := 1, ground := Ground.phase }, { on := 2, ground := Ground.phase }, { on := 3, ground := Ground.phase }, { on := 4, ground := Ground.phase }, { on := 5, ground := Ground.phase }, { on := 6, ground := Ground.phase }, { on := 7, ground := Ground.phase }, { on := 8, ground := Ground.phase }, { on := 9, ground := Ground.phase }, { on := 10, ground := Ground.phase }, { on := 11, ground := Ground.phase }, { on := 12, ground := Ground.phase }, { on := 13, ground := Ground.phase }, { on := 14, ground := Ground.phase }, { on := 15, ground := Ground.phase }, { on := 16, ground := Ground.phase }], guard := none }) (v := .int .i64 (encE x3)) rfl (by kernel_rfl) (by kernel_rfl) (by kernel_rfl) (fun _ _ _ h => h) rfl (Or.inl ⟨by rfl, ?_⟩) (fun h => absurd h (by decide)) ?_
                          · intro wz _; first | (go_simp; done) | (go_simp; with_reducible rfl) | (go_simp; simp [*]; done)
                          try simp only [Act.put, List.setIfInBounds_toArray, List.set_cons_zero, List.set_cons_succ]
                          refine wpAnyT_done (by kernel_rfl) ?_ _
                          refine NoPanic.normal ?_
                          go_wp2
                          go_meet
                          exact ⟨rfl, rfl, HKz.out⟩
                        refine AllReadyT.cons (o := { dst := some 110, op := Op.buildSlice 24 0 #[], type := 24, pos := "law.go:89", after := #[], guard := none }) rfl (fun K hK => ?_) AllReadyT.nil
                        go_simp
                        have hb21 := hb1.alloc hb1.size (.cells #[] 9)
                        have hx23 := heap_alloc_new wa2 (.cells #[] 9)
                        have hk25 := (Below.heap_alloc wa2 (.cells #[] 9) _ (Array.getElem?_eq_some_iff.1 hx3).1).trans hx3
                        have hshb21 := hb1.size
                        refine hK.out _ _ (fun _ => ((HKd.step hb21)).cells) ?_
                        clear hK K
                        generalize wa2.alloc (.cells #[] 9) = wa22 at *
                        generalize wa2.heap.size = ad24 at *
                        try simp only [Act.put, List.setIfInBounds_toArray, List.set_cons_zero, List.set_cons_succ]
                        refine wpAnyT_ready (rs := [7]) (by kernel_rfl) (by simp) ?_
                        refine AllReadyT.cons (o := { dst := some 109, op := Op.call { callee := Callee.builtin Builtin.append, args := #[Operand.tmp 107, Operand.tmp 108], argTypes := #[23, 23] }, type := 23, pos := "law.go:89", after := #[{ on := 5, ground := Ground.data }, { on := 6, ground := Ground.data }], guard := none }) rfl (fun K hK => ?_) AllReadyT.nil
                        refine stepA_m rfl (.tmp 107) (.tmp 108) (by rfl) wd.heap.size _ [] (by rfl) (A.own_empty hk25 hshb1) aN (n) n.length cN rfl (by rfl) (HId.out.below hb21) (by simp only [List.length_nil]; have := HLN.out; have := HLT.out; omega) hb21.size ?_
                        intro v26 wa27 hT28
                        have hb29 := hT28.below (A.own_empty hk25 hshb1) hb21 (Nat.le_refl _)
                        have hk31 := grow_keeps hT28.grown (A.own_empty hk25 hshb1) _ _ 9 _ (by decide) hx23
                        have ow30 := hT28.own
                        rw [List.nil_append] at ow30
                        refine hK.out _ _ (fun _ => ((HKd.step hb29)).cells) ?_
                        clear hK K hT28
                        try simp only [Act.put, List.setIfInBounds_toArray, List.set_cons_zero, List.set_cons_succ]
                        refine wpAnyT_ready (rs := [10]) (by kernel_rfl) (by simp) ?_
                        refine AllReadyT.cons (o := { dst := some 112, op := Op.call { callee := Callee.builtin Builtin.append, args := #[Operand.tmp 110, Operand.tmp 111], argTypes := #[24, 24] }, type := 24, pos := "law.go:89", after := #[{ on := 8, ground := Ground.data }, { on := 9, ground := Ground.data }, { on := 7, ground := Ground.chain }], guard := none }) rfl (fun K hK => ?_) AllReadyT.nil
                        refine stepB_m rfl (.tmp 110) (.tmp 111) (by rfl) wd.heap.size _ [] (by rfl) (B.own_empty hk31 hshb21) aT (t) t.length cT rfl (by rfl) (HSd.out.below hb29) (by simp only [List.length_nil]; have := HLN.out; have := HLT.out; omega) hb29.size ?_
                        intro v32 wa33 hT34
                        have hb35 := hT34.below (B.own_empty hk31 hshb21) hb29 (Nat.le_refl _)
                        have ow37 := own_grown hT34.grown (B.own_empty hk31 hshb21) ow30
                        have ow36 := hT34.own
                        rw [List.nil_append] at ow36
                        refine hK.out _ _ (fun _ => ((HKd.step hb35)).cells) ?_
                        clear hK K hT34
                        try simp only [Act.put, List.setIfInBounds_toArray, List.set_cons_zero, List.set_cons_succ]
                        obtain ⟨qa, qc, q1, q2, q3, q4⟩ := A.own_form ow37
                        obtain ⟨ra, rc, r1, r2, r3, r4⟩ := B.own_form ow36
                        subst q1 r1
                        refine wpAnyT_free (i := 11) (oi := { dst := some 113, op := Op.build 31 #[(0, Operand.tmp 109), (1, Operand.tmp 112)], type := 31, pos := "law.go:89", after := #[{ on := 7, ground := Ground.data }, { on := 10, ground := Ground.data }], guard := none }) (v := .agg #[.slice qa (n).length qc, .slice ra (t).length rc]) rfl (by kernel_rfl) (by kernel_rfl) (by kernel_rfl) (fun _ _ _ h => h) rfl (Or.inl ⟨by rfl, ?_⟩) (fun _ => ((HKd.step hb35)).cells) ?_
                        · intro wz _; first | (go_simp; done) | (go_simp; with_reducible rfl) | (go_simp; simp [*]; done)
                        try simp only [Act.put, List.setIfInBounds_toArray, List.set_cons_zero, List.set_cons_succ]
                        refine wpAnyT_ready (rs := [12]) (by kernel_rfl) (by simp) ?_
                        refine AllReadyT.cons (o := { dst := some 114, op := Op.call { callee := Callee.value (Operand.func 8), args := #[Operand.tmp 106, Operand.tmp 113], argTypes := #[9, 31] }, type := 28, pos := "law.go:89", after := #[{ on := 4, ground := Ground.data }, { on := 11, ground := Ground.data }, { on := 10, ground := Ground.chain }], guard := none }) rfl (fun K hK => ?_) AllReadyT.nil
                        go_simp
                        refine (enc_m (FA ++ FB) (fa ++ fb) HFAB.out (n) (t) n.length t.length hlk hlj qa qc ra rc _ q2 r2 ⟨q3, q4⟩ ⟨r3, r4⟩ (by have := HLN.out; have := HLT.out; omega) x3 HX3.out).mono ?_
                        rintro r wz ⟨rfl, hbz⟩
                        dsimp only
                        have HKz := Lib.hid ((HKd.step hb35).step hbz)
                        clear hbz q2 r2 q3 q4 r3 r4
                        refine hK.out _ _ (fun h => absurd h (by decide)) ?_
                        clear hK K
                        try simp only [Act.put, List.setIfInBounds_toArray, List.set_cons_zero, List.set_cons_succ]
                        refine wpAnyT_free (i := 13) (oi := { dst := some 101, op := Op.move (Operand.tmp 114), type := 28, pos := "law.go:89", after := #[{ on := 12, ground := Ground.data }], guard := none }) (v := .tuple #[.string (encS x3), .int .i64 (encE x3)]) rfl (by kernel_rfl) (by kernel_rfl) (by kernel_rfl) (fun _ _ _ h => h) rfl (Or.inl ⟨by rfl, ?_⟩) (fun h => absurd h (by decide)) ?_
                        · intro wz _; first | (go_simp; done) | (go_simp; with_reducible rfl) | (go_simp; simp [*]; done)
                        try simp only [Act.put, List.setIfInBounds_toArray, List.set_cons_zero, List.set_cons_succ]
                        refine wpAnyT_free (i := 14) (oi := { dst := some 115, op := Op.extract (Operand.tmp 101) 0, type := 9, pos := "law.go:89", after := #[{ on := 13, ground := Ground.data }], guard := none }) (v := .string (encS x3)) rfl (by kernel_rfl) (by kernel_rfl) (by kernel_rfl) (fun _ _ _ h => h) rfl (Or.inl ⟨by rfl, ?_⟩) (fun h => absurd h (by decide)) ?_
                        · intro wz _; first | (go_simp; done) | (go_simp; with_reducible rfl) | (go_simp; simp [*]; done)
                        try simp only [Act.put, List.setIfInBounds_toArray, List.set_cons_zero, List.set_cons_succ]
                        refine wpAnyT_free (i := 15) (oi := { dst := some 116, op := Op.extract (Operand.tmp 101) 1, type := 27, pos := "law.go:89", after := #[{ on := 13, ground := Ground.data }, { on := 16, ground := Ground.gcOnly Departure.lateStores }], guard := none }) (v := .int .i64 (encE x3)) rfl (by kernel_rfl) (by kernel_rfl) (by kernel_rfl) (fun _ _ _ h => h) rfl (Or.inl ⟨by rfl, ?_⟩) (fun h => absurd h (by decide)) ?_
                        · intro wz _; first | (go_simp; done) | (go_simp; with_reducible rfl) | (go_simp; simp [*]; done)
                        try simp only [Act.put, List.setIfInBounds_toArray, List.set_cons_zero, List.set_cons_succ]
                        refine wpAnyT_free (i := 16) (oi := { dst := some 13, op := Op.assign (Operand.tmp 115), type := 9, pos := "law.go:89", after := #[{ on := 14, ground := Ground.data }, { on := 12, ground := Ground.chain }, { on := 0, ground := Ground.phase }, { on := 1, ground := Ground.phase }, { on := 2, ground := Ground.phase }, { on := 3, ground := Ground.phase }, { on := 4, ground := Ground.phase }, { on := 5, ground := Ground.phase }, { on := 6, ground := Ground.phase }, { on := 7, ground := Ground.phase }, { on := 8, ground := Ground.phase }, { on := 9, ground := Ground.phase }, { on := 10, ground := Ground.phase }, { on := 11, ground := Ground.phase }, { on := 12, ground := Ground.phase }, { on := 13, ground := Ground.phase }, { on := 14, ground := Ground.phase }, { on := 15, ground := Ground.textOnly Departure.lateStores }], guard := none }) (v := .string (encS x3)) rfl (by kernel_rfl) (by kernel_rfl) (by kernel_rfl) (fun _ _ _ h => h) rfl (Or.inl ⟨by rfl, ?_⟩) (fun h => absurd h (by decide)) ?_
                        · intro wz _; first | (go_simp; done) | (go_simp; with_reducible rfl) | (go_simp; simp [*]; done)
                        try simp only [Act.put, List.setIfInBounds_toArray, List.set_cons_zero, List.set_cons_succ]
                        refine wpAnyT_free (i := 17) (oi := { dst := some 14, op := Op.assign (Operand.tmp 116), type := 27, pos := "law.go:89", after := #[{ on := 15, ground := Ground.data }, { on := 16, ground := Ground.chain }, { on := 0, ground := Ground.phase }, { on := 1, ground := Ground.phase }, { on := 2, ground := Ground.phase }, { on := 3, ground := Ground.phase }, { on := 4, ground := Ground.phase }, { on := 5, ground := Ground.phase }, { on := 6, ground := Ground.phase }, { on := 7, ground := Ground.phase }, { on := 8, ground := Ground.phase }, { on := 9, ground := Ground.phase }, { on := 10, ground := Ground.phase }, { on := 11, ground := Ground.phase }, { on := 12, ground := Ground.phase }, { on := 13, ground := Ground.phase }, { on := 14, ground := Ground.phase }, { on := 15, ground := Ground.phase }, { on := 16, ground := Ground.phase }], guard := none }) (v := .int .i64 (encE x3)) rfl (by kernel_rfl) (by kernel_rfl) (by kernel_rfl) (fun _ _ _ h => h) rfl (Or.inl ⟨by rfl, ?_⟩) (fun h => absurd h (by decide)) ?_
                        · intro wz _; first | (go_simp; done) | (go_simp; with_reducible rfl) | (go_simp; simp [*]; done)
                        try simp only [Act.put, List.setIfInBounds_toArray, List.set_cons_zero, List.set_cons_succ]
                        refine wpAnyT_done (by kernel_rfl) ?_ _
                        refine NoPanic.normal ?_
                        go_wp2
                        go_meet
                        exact ⟨rfl, rfl, HKz.out⟩
                      refine AllReadyT.cons (o := { dst := some 110, op := Op.buildSlice 24 0 #[], type := 24, pos := "law.go:89", after := #[], guard := none }) rfl (fun K hK => ?_) AllReadyT.nil
                      go_simp
                      have hb38 := hb0.alloc hb0.size (.cells #[] 9)
                      have hx40 := heap_alloc_new wd (.cells #[] 9)
                      have hshb38 := hb0.size
                      refine hK.out _ _ (fun _ => ((HKd.step hb38)).cells) ?_
                      clear hK K
                      generalize wd.alloc (.cells #[] 9) = wa39 at *
                      try simp only [Act.put, List.setIfInBounds_toArray, List.set_cons_zero, List.set_cons_succ]
                      refine wpAnyT_ready (rs := [5]) (by kernel_rfl) (by simp) ?_
                      refine AllReadyT.cons (o := { dst := some 107, op := Op.buildSlice 23 0 #[], type := 23, pos := "law.go:89", after := #[], guard := none }) rfl (fun K hK => ?_) AllReadyT.nil
                      go_simp
                      have hb42 := hb38.alloc hb38.size (.cells #[] 3)
                      have hx44 := heap_alloc_new wa39 (.cells #[] 3)
                      have hk46 := (Below.heap_alloc wa39 (.cells #[] 3) _ (Array.getElem?_eq_some_iff.1 hx40).1).trans hx40
                      have hshb42 := hb38.size
                      refine hK.out _ _ (fun _ => ((HKd.step hb42)).cells) ?_
                      clear hK K
                      generalize wa39.alloc (.cells #[] 3) = wa43 at *
                      generalize wa39.heap.size = ad45 at *
                      try simp only [Act.put, List.setIfInBounds_toArray, List.set_cons_zero, List.set_cons_succ]
                      refine wpAnyT_ready (rs := [7]) (by kernel_rfl) (by simp) ?_
                      refine AllReadyT.cons (o := { dst := some 109, op := Op.call { callee := Callee.builtin Builtin.append, args := #[Operand.tmp 107, Operand.tmp 108], argTypes := #[23, 23] }, type := 23, pos := "law.go:89", after := #[{ on := 5, ground := Ground.data }, { on := 6, ground := Ground.data }], guard := none }) rfl (fun K hK => ?_) AllReadyT.nil
                      refine stepA_m rfl (.tmp 107) (.tmp 108) (by rfl) wd.heap.size _ [] (by rfl) (A.own_empty hx44 hshb42) aN (n) n.length cN rfl (by rfl) (HId.out.below hb42) (by simp only [List.length_nil]; have := HLN.out; have := HLT.out; omega) hb42.size ?_
                      intro v47 wa48 hT49
                      have hb50 := hT49.below (A.own_empty hx44 hshb42) hb42 (Nat.le_refl _)
                      have hk52 := grow_keeps hT49.grown (A.own_empty hx44 hshb42) _ _ 9 _ (by decide) hk46
                      have ow51 := hT49.own
                      rw [List.nil_append] at ow51
                      refine hK.out _ _ (fun _ => ((HKd.step hb50)).cells) ?_
                      clear hK K hT49
                      try simp only [Act.put, List.setIfInBounds_toArray, List.set_cons_zero, List.set_cons_succ]
                      refine wpAnyT_ready (rs := [10]) (by kernel_rfl) (by simp) ?_
                      refine AllReadyT.cons (o := { dst := some 112, op := Op.call { callee := Callee.builtin Builtin.append, args := #[Operand.tmp 110, Operand.tmp 111], argTypes := #[24, 24] }, type := 24, pos := "law.go:89", after := #[{ on := 8, ground := Ground.data }, { on := 9, ground := Ground.data }, { on := 7, ground := Ground.chain }], guard := none }) rfl (fun K hK => ?_) AllReadyT.nil
                      refine stepB_m rfl (.tmp 110) (.tmp 111) (by rfl) wd.heap.size _ [] (by rfl) (B.own_empty hk52 hshb38) aT (t) t.length cT rfl (by rfl) (HSd.out.below hb50) (by simp only [List.length_nil]; have := HLN.out; have := HLT.out; omega) hb50.size ?_
                      intro v53 wa54 hT55
                      have hb56 := hT55.below (B.own_empty hk52 hshb38) hb50 (Nat.le_refl _)
                      have ow58 := own_grown hT55.grown (B.own_empty hk52 hshb38) ow51
                      have ow57 := hT55.own
                      rw [List.nil_append] at ow57
                      refine hK.out _ _ (fun _ => ((HKd.step hb56)).cells) ?_
                      clear hK K hT55
                      try simp only [Act.put, List.setIfInBounds_toArray, List.set_cons_zero, List.set_cons_succ]
                      obtain ⟨qa, qc, q1, q2, q3, q4⟩ := A.own_form ow58
                      obtain ⟨ra, rc, r1, r2, r3, r4⟩ := B.own_form ow57
                      subst q1 r1
                      refine wpAnyT_free (i := 11) (oi := { dst := some 113, op := Op.build 31 #[(0, Operand.tmp 109), (1, Operand.tmp 112)], type := 31, pos := "law.go:89", after := #[{ on := 7, ground := Ground.data }, { on := 10, ground := Ground.data }], guard := none }) (v := .agg #[.slice qa (n).length qc, .slice ra (t).length rc]) rfl (by kernel_rfl) (by kernel_rfl) (by kernel_rfl) (fun _ _ _ h => h) rfl (Or.inl ⟨by rfl, ?_⟩) (fun _ => ((HKd.step hb56)).cells) ?_
                      · intro wz _; first | (go_simp; done) | (go_simp; with_reducible rfl) | (go_simp; simp [*]; done)
                      try simp only [Act.put, List.setIfInBounds_toArray, List.set_cons_zero, List.set_cons_succ]
                      refine wpAnyT_ready (rs := [12]) (by kernel_rfl) (by simp) ?_
                      refine AllReadyT.cons (o := { dst := some 114, op := Op.call { callee := Callee.value (Operand.func 8), args := #[Operand.tmp 106, Operand.tmp 113], argTypes := #[9, 31] }, type := 28, pos := "law.go:89", after := #[{ on := 4, ground := Ground.data }, { on := 11, ground := Ground.data }, { on := 10, ground := Ground.chain }], guard := none }) rfl (fun K hK => ?_) AllReadyT.nil
                      go_simp
                      refine (enc_m (FA ++ FB) (fa ++ fb) HFAB.out (n) (t) n.length t.length hlk hlj qa qc ra rc _ q2 r2 ⟨q3, q4⟩ ⟨r3, r4⟩ (by have := HLN.out; have := HLT.out; omega) x3 HX3.out).mono ?_
                      rintro r wz ⟨rfl, hbz⟩
                      dsimp only
                      have HKz := Lib.hid ((HKd.step hb56).step hbz)
                      clear hbz q2 r2 q3 q4 r3 r4
                      refine hK.out _ _ (fun h => absurd h (by decide)) ?_
                      clear hK K
                      try simp only [Act.put, List.setIfInBounds_toArray, List.set_cons_zero, List.set_cons_succ]
                      refine wpAnyT_free (i := 13) (oi := { dst := some 101, op := Op.move (Operand.tmp 114), type := 28, pos := "law.go:89", after := #[{ on := 12, ground := Ground.data }], guard := none }) (v := .tuple #[.string (encS x3), .int .i64 (encE x3)]) rfl (by kernel_rfl) (by kernel_rfl) (by kernel_rfl) (fun _ _ _ h => h) rfl (Or.inl ⟨by rfl, ?_⟩) (fun h => absurd h (by decide)) ?_
                      · intro wz _; first | (go_simp; done) | (go_simp; with_reducible rfl) | (go_simp; simp [*]; done)
                      try simp only [Act.put, List.setIfInBounds_toArray, List.set_cons_zero, List.set_cons_succ]
                      refine wpAnyT_free (i := 14) (oi := { dst := some 115, op := Op.extract (Operand.tmp 101) 0, type := 9, pos := "law.go:89", after := #[{ on := 13, ground := Ground.data }], guard := none }) (v := .string (encS x3)) rfl (by kernel_rfl) (by kernel_rfl) (by kernel_rfl) (fun _ _ _ h => h) rfl (Or.inl ⟨by rfl, ?_⟩) (fun h => absurd h (by decide)) ?_
                      · intro wz _; first | (go_simp; done) | (go_simp; with_reducible rfl) | (go_simp; simp [*]; done)
                      try simp only [Act.put, List.setIfInBounds_toArray, List.set_cons_zero, List.set_cons_succ]
                      refine wpAnyT_free (i := 15) (oi := { dst := some 116, op := Op.extract (Operand.tmp 101) 1, type := 27, pos := "law.go:89", after := #[{ on := 13, ground := Ground.data }, { on := 16, ground := Ground.gcOnly Departure.lateStores }], guard := none }) (v := .int .i64 (encE x3)) rfl (by kernel_rfl) (by kernel_rfl) (by kernel_rfl) (fun _ _ _ h => h) rfl (Or.inl ⟨by rfl, ?_⟩) (fun h => absurd h (by decide)) ?_
                      · intro wz _; first | (go_simp; done) | (go_simp; with_reducible rfl) | (go_simp; simp [*]; done)
                      try simp only [Act.put, List.setIfInBounds_toArray, List.set_cons_zero, List.set_cons_succ]
                      refine wpAnyT_free (i := 16) (oi := { dst := some 13, op := Op.assign (Operand.tmp 115), type := 9, pos := "law.go:89", after := #[{ on := 14, ground := Ground.data }, { on := 12, ground := Ground.chain }, { on := 0, ground := Ground.phase }, { on := 1, ground := Ground.phase }, { on := 2, ground := Ground.phase }, { on := 3, ground := Ground.phase }, { on := 4, ground := Ground.phase }, { on := 5, ground := Ground.phase }, { on := 6, ground := Ground.phase }, { on := 7, ground := Ground.phase }, { on := 8, ground := Ground.phase }, { on := 9, ground := Ground.phase }, { on := 10, ground := Ground.phase }, { on := 11, ground := Ground.phase }, { on := 12, ground := Ground.phase }, { on := 13, ground := Ground.phase }, { on := 14, ground := Ground.phase }, { on := 15, ground := Ground.textOnly Departure.lateStores }], guard := none }) (v := .string (encS x3)) rfl (by kernel_rfl) (by kernel_rfl) (by kernel_rfl) (fun _ _ _ h => h) rfl (Or.inl ⟨by rfl, ?_⟩) (fun h => absurd h (by decide)) ?_
                      · intro wz _; first | (go_simp; done) | (go_simp; with_reducible rfl) | (go_simp; simp [*]; done)
                      try simp only [Act.put, List.setIfInBounds_toArray, List.set_cons_zero, List.set_cons_succ]
                      refine wpAnyT_free (i := 17) (oi := { dst := some 14, op := Op.assign (Operand.tmp 116), type := 27, pos := "law.go:89", after := #[{ on := 15, ground := Ground.data }, { on := 16, ground := Ground.chain }, { on := 0, ground := Ground.phase }, { on := 1, ground := Ground.phase }, { on := 2, ground := Ground.phase }, { on := 3, ground := Ground.phase }, { on := 4, ground := Ground.phase }, { on := 5, ground := Ground.phase }, { on := 6, ground := Ground.phase }, { on := 7, ground := Ground.phase }, { on := 8, ground := Ground.phase }, { on := 9, ground := Ground.phase }, { on := 10, ground := Ground.phase }, { on := 11, ground := Ground.phase }, { on := 12, ground := Ground.phase }, { on := 13, ground := Ground.phase }, { on := 14, ground := Ground.phase }, { on := 15, ground := Ground.phase }, { on := 16, ground := Ground.phase }], guard := none }) (v := .int .i64 (encE x3)) rfl (by kernel_rfl) (by kernel_rfl) (by kernel_rfl) (fun _ _ _ h => h) rfl (Or.inl ⟨by rfl, ?_⟩) (fun h => absurd h (by decide)) ?_
                      · intro wz _; first | (go_simp; done) | (go_simp; with_reducible rfl) | (go_simp; simp [*]; done)
                      try simp only [Act.put, List.setIfInBounds_toArray, List.set_cons_zero, List.set_cons_succ]
                      refine wpAnyT_done (by kernel_rfl) ?_ _
                      refine NoPanic.normal ?_
                      go_wp2
                      go_meet
                      exact ⟨rfl, rfl, HKz.out⟩
                    case rest =>
                    obtain ⟨rfl, rfl, hkr⟩ := hcut
                    have HKC := Lib.hid hkr
                    clear hkr HKB
                    rw [HV3.out.1, HV3.out.2]
                    go_wp2
                    go_ret
                    exact ⟨rfl, HKC.out.low⟩
            · have hd3 : decide ((j : Int) < 9) = false := decide_eq_false (by omega)
              by_cases h20 : 20 < k
              · have hd4 : decide ((20 : Int) < (k : Int)) = true := decide_eq_true (by omega)
                go_wp2
                go_ret
                exact ⟨rfl, HKJ.out.low⟩
              · have hd4 : decide ((20 : Int) < (k : Int)) = false := decide_eq_false (by omega)
                go_wp2
                exact ⟨⟨k + 1, by omega, by go_num, HKJ.out⟩, by simp [intOf]; omega⟩
          · have hd2 : decide ((j : Int) ≤ (t.length : Int)) = false := decide_eq_false (by omega)
            by_cases h20 : 20 < k
            · have hd4 : decide ((20 : Int) < (k : Int)) = true := decide_eq_true (by omega)
              go_wp2
              go_ret
              exact ⟨rfl, HKJ.out.low⟩
            · have hd4 : decide ((20 : Int) < (k : Int)) = false := decide_eq_false (by omega)
              go_wp2
              exact ⟨⟨k + 1, by omega, by go_num, HKJ.out⟩, by simp [intOf]; omega⟩
      · have hd : decide ((k : Int) ≤ (n.length : Int)) = false := decide_eq_false (by omega)
        go_wp2
        go_ret
        exact ⟨rfl, HKR.out.low⟩
end Go.Proofs.YtakfpfnaogdmlaaDoor
