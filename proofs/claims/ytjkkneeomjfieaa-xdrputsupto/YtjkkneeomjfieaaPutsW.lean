/-
  XdrPuts's walk. Its condition: what came in is of bulk at most 2^20.
-/
import Derived.Test.YtjkkneeomjfieaaMath
import Derived.Test.YtjkkneeomjfieaaSpeaks
import Derived.Test.YtjkkneeomjfieaaRef
import Derived.Deep.QuietTactic
import Derived.BigQuiet
import Derived.Deep.RegionWith
namespace Go.Proofs.Ytjkkneeomjfieaa
open Go.RowKit

/-- A writer and a slice of the law's own, that know nothing of one another. -/
structure Two (B : Nat) (w : World) (p : Nat) (v vo : Value) (l lo : List UInt8) : Prop where
  wr : Wr w p v l
  out : w.ownsRow 0 5 1 vo lo.length (cellsOf lo)
  apart : vo.ownBlock = none ∨ vo.ownBlock ≠ v.ownBlock
  bp : B ≤ p
  bv : ∀ j, v.ownBlock = some j → B ≤ j
  bo : ∀ j, vo.ownBlock = some j → B ≤ j

theorem own_kept {w w' : World} {v : Value} {n : Nat} {xs : List Value} (h : w.ownsRow 0 5 1 v n xs) (hb : ∀ k, v.ownBlock = some k → k < w.heap.size → w'.heap[k]? = w.heap[k]?) : w'.ownsRow 0 5 1 v n xs := by
  refine ⟨h.1, ?_⟩
  rcases h.2 with e | ⟨g, cap, cur, e1, e2, hg, r⟩
  · exact .inl e
  · exact .inr ⟨g, cap, cur, e1, e2, (hb g (by rw [e1]; rfl) (Array.getElem?_eq_some_iff.1 hg).1).trans hg, r⟩
theorem Two.below {B : Nat} {w w' : World} {p : Nat} {v vo : Value} {l lo : List UInt8} (h : Two B w p v vo l lo) (hb : Below w.heap.size w w') : Two B w' p v vo l lo :=
  ⟨⟨(hb.block p h.wr.lt).trans h.wr.1, own_kept h.wr.2 fun k _ hk => hb.block k hk⟩, own_kept h.out fun k _ hk => hb.block k hk, h.apart, h.bp, h.bv, h.bo⟩
theorem Two.write {B : Nat} {w w' : World} {p : Nat} {v v' vo : Value} {l l' lo : List UInt8} (h : Two B w p v vo l lo) (hB : B ≤ w.heap.size) (hC : Chg p v v' w w') (hW : Wr w' p v' l') : Two B w' p v' vo l' lo := by
  have hne : ∀ k, vo.ownBlock = some k → k < w.heap.size → some k ≠ v.ownBlock := by
    intro k hk _
    rcases h.apart with e | e
    · rw [e] at hk; cases hk
    · rw [← hk]; exact e
  have hkp : ∀ k, vo.ownBlock = some k → k ≠ p := by
    intro k hk e
    subst e
    rcases h.out.2 with ⟨e1, _⟩ | ⟨g, cap, cur, e1, _, hg, _⟩
    · rw [e1] at hk; cases hk
    · rw [e1] at hk
      have : g = k := by simpa [Value.ownBlock] using hk
      subst this
      rw [h.wr.1] at hg; simp at hg
  refine ⟨hW, own_kept h.out fun k hk hl => hC.block k hl (hkp k hk) (hne k hk hl), ?_, h.bp, ?_, h.bo⟩
  · cases ho : vo.ownBlock with
    | none => exact Or.inl rfl
    | some k =>
      right
      have hl := (h.out.lt k ho).2
      rcases hC.own with e | ⟨g, e, hg⟩
      · rw [e]; exact hne k ho hl
      · rw [e]; intro e2; have : k = g := by simpa using e2
        omega
  · intro j hj
    rcases hC.own with e | ⟨g, e, hg⟩
    · exact h.bv j (by rw [← e]; exact hj)
    · rw [hj] at e; have : j = g := by simpa using e
      omega
theorem Two.app {B : Nat} {w w' : World} {p : Nat} {v vo vo' : Value} {l lo lo' : List UInt8} (h : Two B w p v vo l lo) (hB : B ≤ w.heap.size) (hg : w.grownBy w' vo.ownBlock) (hown : w'.ownsRow 0 5 1 vo' lo'.length (cellsOf lo'))
    (hat : vo'.ownBlock = vo.ownBlock ∨ ∃ g, vo'.ownBlock = some g ∧ w.heap.size ≤ g) : Two B w' p v vo' l lo' := by
  have hpo : some p ≠ vo.ownBlock := by
    intro e
    rcases h.out.2 with ⟨e1, _⟩ | ⟨g, cap, cur, e1, _, hh, _⟩
    · rw [e1] at e; cases e
    · rw [e1] at e
      have : p = g := by simpa [Value.ownBlock] using e
      subst this
      rw [h.wr.1] at hh; simp at hh
  refine ⟨⟨(hg.block p h.wr.lt hpo).trans h.wr.1, own_kept h.wr.2 fun k hk hl => hg.block k hl ?_⟩, hown, ?_, h.bp, h.bv, ?_⟩
  · intro e
    rcases h.apart with e2 | e2
    · rw [e2] at e; cases e
    · exact e2 (by rw [hk, e])
  · rcases hat with e | ⟨g, e, hgg⟩
    · rw [e]; exact h.apart
    · right; rw [e]; intro e2
      have := (h.wr.2.lt g e2.symm).2
      omega
  · intro j hj
    rcases hat with e | ⟨g, e, hgg⟩
    · exact h.bo j (by rw [← e]; exact hj)
    · rw [hj] at e; have : j = g := by simpa using e
      omega

theorem encP0 {x : It} (h : kd x.kind = 0) : encIt x = numBytes x.n 4 := by simp [encIt, h]
theorem encP1 {x : It} (h : kd x.kind = 1) : encIt x = numBytes x.n 8 := by simp [encIt, h]
theorem encP2 {x : It} (h : kd x.kind = 2) : encIt x = numBytes (if (x.n.tmod 2 == 0) then 1 else 0) 4 := by simp [encIt, h, even]
theorem encP2a {x : It} (h : kd x.kind = 2) (hev : (x.n.tmod 2 == 0) = true) : encIt x = numBytes 1 4 := by rw [encP2 h, hev]; rfl
theorem encP2b {x : It} (h : kd x.kind = 2) (hev : (x.n.tmod 2 == 0) = false) : encIt x = numBytes 0 4 := by rw [encP2 h, hev]; rfl
theorem encP3 {x : It} (h : kd x.kind = 3) : encIt x = opaqueOf x.text := by simp [encIt, h]
theorem encP4 {x : It} (h : kd x.kind = 4) : encIt x = fixedOf x.text := by simp [encIt, h]

section
variable (w : World)
set_option maxHeartbeats 400000 in
theorem number_nil (n m : Int) : Calls Try.prog 34 #[.pointer none, .int .i64 n, .int .i64 m] w fun e w' => e = .returned (.tuple #[]) ∧ w = w' := by
  go_enter Try.func34, Try.ntmps34
  go_wp2
  refine bodyPost_ret (results_none rfl _ _ _) rfl ?_
  exact ⟨rfl, rfl⟩
set_option maxHeartbeats 400000 in
theorem uint_nil (n : Int) : Calls Try.prog 11 #[.pointer none, .int .i64 n] w fun e w' => e = .returned (.tuple #[]) ∧ w = w' := by
  go_enter Try.func11, Try.ntmps11
  go_wp2_with fail
  refine (number_nil _ _ _).mono ?_
  rintro e w' ⟨rfl, rfl⟩
  go_wp2
  go_end0
  exact ⟨rfl, rfl⟩
set_option maxHeartbeats 400000 in
theorem hyper_nil (n : Int) : Calls Try.prog 13 #[.pointer none, .int .i64 n] w fun e w' => e = .returned (.tuple #[]) ∧ w = w' := by
  go_enter Try.func13, Try.ntmps13
  go_wp2_with fail
  refine (number_nil _ _ _).mono ?_
  rintro e w' ⟨rfl, rfl⟩
  go_wp2
  go_end0
  exact ⟨rfl, rfl⟩
set_option maxHeartbeats 400000 in
theorem bool_nil : Calls Try.prog 15 #[.pointer none, .bool true] w fun e w' => e = .returned (.tuple #[]) ∧ w = w' := by
  go_enter Try.func15, Try.ntmps15
  go_wp2_with fail
  refine (uint_nil _ _).mono ?_
  rintro e w' ⟨rfl, rfl⟩
  go_wp2
  go_end0
  exact ⟨rfl, rfl⟩
set_option maxHeartbeats 400000 in
theorem fixed_nil (s : ByteArray) : Calls Try.prog 18 #[.pointer none, .string s] w fun e w' => e = .returned (.tuple #[]) ∧ w = w' := by
  go_enter Try.func18, Try.ntmps18
  go_wp2
  refine bodyPost_ret (results_none rfl _ _ _) rfl ?_
  exact ⟨rfl, rfl⟩
set_option maxHeartbeats 400000 in
theorem opaque_nil (s : ByteArray) : Calls Try.prog 16 #[.pointer none, .string s] w fun e w' => e = .returned (.tuple #[]) ∧ w = w' := by
  go_enter Try.func16, Try.ntmps16
  go_wp2_with fail
  refine (uint_nil _ _).mono ?_
  rintro e w' ⟨rfl, rfl⟩
  go_wp2_with fail
  refine (fixed_nil _ _).mono ?_
  rintro e w' ⟨rfl, rfl⟩
  go_wp2
  go_end0
  exact ⟨rfl, rfl⟩
set_option maxHeartbeats 400000 in
theorem bytes_nil : Calls Try.prog 20 #[.pointer none] w fun e w' => e = .returned (.string ⟨#[]⟩) ∧ w' = w := by
  go_enter Try.func20, Try.ntmps20
  go_wp2
  go_ret
  exact ⟨rfl, rfl⟩
end
theorem bytes_same (p : Nat) (v : Value) (l : List UInt8) (w : World) (hW : Wr w p v l) :
    Calls Try.prog 20 #[.pointer (some ⟨p, 0, none⟩)] w fun e w' => e = .returned (.string ⟨l.toArray⟩) ∧ w' = w :=
  (bytes_any p v l w hW).mono fun _ _ ⟨a, b⟩ => ⟨a, b.symm⟩
theorem Wr.drewN {w : World} {p : Nat} {v : Value} {l : List UInt8} (h : Wr w p v l) (n : Nat) : Wr (w.drewN n) p v l := h
theorem own_string {P : Program} {w : World} {v : Value} {l : List UInt8} (h : w.ownsRow 0 5 1 v l.length (cellsOf l)) (src dst : TypeId) (hs : P.underlying src = some (.slice 5)) (he : P.underlying 5 = some (.int .u8)) (hd : P.underlying dst = some .string) :
    (convert src dst v).run P w = .ok (.string ⟨l.toArray⟩) w := by
  rcases h.2 with ⟨rfl, h0⟩ | ⟨g, cap, cur, rfl, _, hg, _⟩
  · have : l = [] := List.eq_nil_of_length_eq_zero h0
    subst this
    exact run_convert_bytes_nil w src 5 hs he 0 0 dst hd
  · refine run_convert_bytes_back w src dst 5 _ cap l hs he hd fun j hj => ?_
    exact h.cells (g := g) rfl j _ (by simp [cellsOf, List.getElem?_eq_getElem hj])
/-- The thing's block behind a writer's call. -/
theorem item_kept {wr w2 : World} {p : Nat} {v v2 : Value} {l : List UInt8} {o : Obj} (hW : Wr wr p v l) (hC : Chg p v v2 (wr.alloc o) w2) (j : Nat) : w2.cell? ⟨wr.heap.size, j, none⟩ = (wr.alloc o).cell? ⟨wr.heap.size, j, none⟩ := by
  refine World.cell?_of_block (hC.block _ (by simp) ?_ ?_)
  · have := hW.lt; show wr.heap.size ≠ p; omega
  · intro e
    have := (hW.2.lt _ e.symm).2
    simp at this

set_option maxRecDepth 100000 in
set_option maxHeartbeats 2000000 in
theorem puts_walk (L : List It) (ao : Option Addr) (cap : Nat) (w : World) (hI : ItemsAt w ao L) (hB : bulkL L ≤ 1048576) :
    Calls Try.prog 3 #[.slice ao L.length cap] w fun e w' => e = .returned (.bool true) ∧ Below w.heap.size w w' := by
  obtain ⟨i0, hi, hz0, hz1, hz2⟩ := info_parts Try.info5
  have hLl := length_bulk L
  have HI := Lib.hid hI
  clear hI
  go_enter Try.func3, Try.ntmps3
  go_wp2_with fail
  refine (speaks_any _).mono ?_
  rintro e w0 ⟨rfl, HB0⟩
  have HB1 := Lib.hid (HB0.alloc HB0.size (.cells #[.slice none 0 0] 26))
  have hW0 := Wr.new w0
  have hsz : w.heap.size ≤ w0.heap.size := HB0.size
  have HT0 := Lib.hid (show Two w.heap.size (w0.alloc (.cells #[.slice none 0 0] 26)) w0.heap.size (.slice none 0 0) (.slice none 0 0) [] [] from ⟨hW0, World.ownsRow_nil _ _ _ _, Or.inl rfl, hsz, (fun j hj => by cases hj), (fun j hj => by cases hj)⟩)
  clear HB0 hW0
  go_wp2_with fail
  go_loopw [5, 6] (fun vo i wr => ∃ k : Nat, k ≤ L.length ∧ i = .int .i64 k ∧ ∃ v, Two w.heap.size wr w0.heap.size v vo (encAll (L.take k)) (encAll (L.take k)) ∧ Below w.heap.size w wr) (fun _ i _ => L.length - (intOf i).toNat)
  case atStart => exact ⟨0, Nat.zero_le _, rfl, .slice none 0 0, HT0.out, HB1.out⟩
  case round =>
    obtain ⟨k, hk, rfl, v, hT, hBe⟩ := hrel
    clear HT0 HB1
    have HBe := Lib.hid hBe
    clear hBe
    by_cases hlt : k < L.length
    · obtain ⟨g, off, rfl, hg, c0, c1, c2⟩ := HI.out k hlt
      rw [← HBe.out.cell (p := ⟨g, _, none⟩) hg] at c0 c1 c2
      obtain ⟨x, hx⟩ : ∃ x, x = L[k] := ⟨_, rfl⟩
      rw [← hx] at c0 c1 c2
      have HX := Lib.hid hx
      clear hx
      have hbk := bulkL_at hlt
      rw [← HX.out] at hbk
      have hrs : w.heap.size ≤ wr.heap.size := HBe.out.size
      have hTa := hT.below ((Below.refl _ _).alloc (Nat.le_refl _) (.cells #[.int .i64 x.kind, .int .i64 x.n, .string x.text] 29))
      have HBa := Lib.hid (HBe.out.alloc HBe.out.size (.cells #[.int .i64 x.kind, .int .i64 x.n, .string x.text] 29))
      obtain ⟨l, hl⟩ : ∃ l, l = encAll (L.take k) := ⟨_, rfl⟩
      rw [← hl] at hTa hT hbk
      have HL := Lib.hid hl
      clear hl
      go_wp2_with fail
      refine (kind_any x.kind _).mono ?_
      rintro e w' ⟨rfl, rfl⟩
      clear c0 c1 c2
      rcases kd_cases x.kind with hkd | hkd | hkd | hkd | hkd
      · rw [hkd]
        have HE := Lib.hid ((congrArg encIt HX.out.symm).trans (encP0 hkd))
        clear hkd
        go_wp2_with fail
        refine (uint_any _ v _ x.n _ hTa.wr (by omega)).mono ?_
        rintro e w2 ⟨rfl, v2, hW2, hC2⟩
        have hcx : w2.cell? ⟨wr.heap.size, 1, none⟩ = some (.int .i64 x.n) := by
          rw [item_kept hT.wr hC2]; simp [World.cell?_alloc_at]
        have hT2 := hTa.write (by simp; omega) hC2 hW2
        have HB2 := Lib.hid (HBa.out.trans (hC2.below (B := w.heap.size) (by simp; omega) hTa.bp hTa.bv))
        clear hW2 hC2
        go_wp2_with fail
        refine (uint_nil _ _).mono ?_
        rintro e w' ⟨rfl, rfl⟩
        go_wp2_with fail
        refine (refUint_any _ _).mono ?_
        rintro e w3 ⟨rfl, hB3⟩
        have hT3 := hT2.below hB3
        have HB3 := Lib.hid (HB2.out.trans (hB3.mono HB2.out.size))
        have hs3 : w.heap.size ≤ w3.heap.size := HB3.out.size
        clear hB3 hT2 HB2 hcx
        obtain ⟨E, hEE⟩ : ∃ E, E = numBytes x.n 4 := ⟨_, rfl⟩
        have hEl : E.length ≤ x.text.size + 8 := by rw [hEE, ← HE.out, ← HX.out]; exact encIt_length x
        have hEs : ({ data := E.toArray } : ByteArray).size = E.length := by simp [ByteArray.size]
        rw [← hEE] at hT3 ⊢
        have HEE := Lib.hid hEE
        have HEs := Lib.hid hEs
        clear hEE hEs
        go_wp2_with (at_builtin; refine wpList_append_str_at _ rfl (.tmp 45) (.tmp 48) 24 9 rfl 5 i0 Try.underlying24 Try.underlying9 hi hz0 hz1 hz2 u5 l.length _ rfl hT3.out ⟨E.toArray⟩ rfl (by rw [HEs.out]; omega) ?_; intro ao2 cap2 w4 hown hgrow hat)
        go_roundw
        case rel =>
          rw [HEs.out] at hown hat
          refine ⟨k + 1, by omega, by go_num, v2, ?_, ?_⟩
          · have e1 : encAll (L.take (k + 1)) = l ++ E := by rw [encAll_take hlt, HE.out, ← HEE.out, ← HL.out]
            rw [e1]
            refine hT3.app hs3 hgrow ?_ hat
            rw [cellsOf_append, List.length_append]
            exact hown
          · exact HB3.out.grown hgrow hs3 hT3.bo
        case measure => simp [intOf]; omega
      · rw [hkd]
        have HE := Lib.hid ((congrArg encIt HX.out.symm).trans (encP1 hkd))
        clear hkd
        go_wp2_with fail
        refine (hyper_any _ v _ x.n _ hTa.wr (by omega)).mono ?_
        rintro e w2 ⟨rfl, v2, hW2, hC2⟩
        have hcx : w2.cell? ⟨wr.heap.size, 1, none⟩ = some (.int .i64 x.n) := by
          rw [item_kept hT.wr hC2]; simp [World.cell?_alloc_at]
        have hT2 := hTa.write (by simp; omega) hC2 hW2
        have HB2 := Lib.hid (HBa.out.trans (hC2.below (B := w.heap.size) (by simp; omega) hTa.bp hTa.bv))
        clear hW2 hC2
        go_wp2_with fail
        refine (hyper_nil _ _).mono ?_
        rintro e w' ⟨rfl, rfl⟩
        go_wp2_with fail
        refine (refHyper_any _ _).mono ?_
        rintro e w3 ⟨rfl, hB3⟩
        have hT3 := hT2.below hB3
        have HB3 := Lib.hid (HB2.out.trans (hB3.mono HB2.out.size))
        have hs3 : w.heap.size ≤ w3.heap.size := HB3.out.size
        clear hB3 hT2 HB2 hcx
        obtain ⟨E, hEE⟩ : ∃ E, E = numBytes x.n 8 := ⟨_, rfl⟩
        have hEl : E.length ≤ x.text.size + 8 := by rw [hEE, ← HE.out, ← HX.out]; exact encIt_length x
        have hEs : ({ data := E.toArray } : ByteArray).size = E.length := by simp [ByteArray.size]
        rw [← hEE] at hT3 ⊢
        have HEE := Lib.hid hEE
        have HEs := Lib.hid hEs
        clear hEE hEs
        go_wp2_with (at_builtin; refine wpList_append_str_at _ rfl (.tmp 59) (.tmp 62) 24 9 rfl 5 i0 Try.underlying24 Try.underlying9 hi hz0 hz1 hz2 u5 l.length _ rfl hT3.out ⟨E.toArray⟩ rfl (by rw [HEs.out]; omega) ?_; intro ao2 cap2 w4 hown hgrow hat)
        go_roundw
        case rel =>
          rw [HEs.out] at hown hat
          refine ⟨k + 1, by omega, by go_num, v2, ?_, ?_⟩
          · have e1 : encAll (L.take (k + 1)) = l ++ E := by rw [encAll_take hlt, HE.out, ← HEE.out, ← HL.out]
            rw [e1]
            refine hT3.app hs3 hgrow ?_ hat
            rw [cellsOf_append, List.length_append]
            exact hown
          · exact HB3.out.grown hgrow hs3 hT3.bo
        case measure => simp [intOf]; omega
      · by_cases hev : (x.n.tmod 2 == 0) = true
        · rw [hkd]
          have HE := Lib.hid ((congrArg encIt HX.out.symm).trans (encP2a hkd hev))
          clear hkd
          go_wp2_with fail
          refine (bool_any _ v _ true _ hTa.wr (by omega)).mono ?_
          rintro e w2 ⟨rfl, v2, hW2, hC2⟩
          replace hW2 : Wr w2 w0.heap.size v2 (l ++ numBytes 1 4) := hW2
          have hcx : w2.cell? ⟨wr.heap.size, 1, none⟩ = some (.int .i64 x.n) := by
            rw [item_kept hT.wr hC2]; simp [World.cell?_alloc_at]
          have hT2 := hTa.write (by simp; omega) hC2 hW2
          have HB2 := Lib.hid (HBa.out.trans (hC2.below (B := w.heap.size) (by simp; omega) hTa.bp hTa.bv))
          clear hW2 hC2
          go_wp2_with fail
          refine (bool_nil _).mono ?_
          rintro e w' ⟨rfl, rfl⟩
          go_wp2_with fail
          refine (refUint_any _ _).mono ?_
          rintro e w3 ⟨rfl, hB3⟩
          have hT3 := hT2.below hB3
          have HB3 := Lib.hid (HB2.out.trans (hB3.mono HB2.out.size))
          have hs3 : w.heap.size ≤ w3.heap.size := HB3.out.size
          clear hB3 hT2 HB2 hcx
          obtain ⟨E, hEE⟩ : ∃ E, E = numBytes 1 4 := ⟨_, rfl⟩
          have hEl : E.length ≤ x.text.size + 8 := by rw [hEE, ← HE.out, ← HX.out]; exact encIt_length x
          have hEs : ({ data := E.toArray } : ByteArray).size = E.length := by simp [ByteArray.size]
          rw [← hEE] at hT3 ⊢
          have HEE := Lib.hid hEE
          have HEs := Lib.hid hEs
          clear hEE hEs
          go_wp2_with (at_builtin; refine wpList_append_str_at _ rfl (.tmp 77) (.tmp 79) 24 9 rfl 5 i0 Try.underlying24 Try.underlying9 hi hz0 hz1 hz2 u5 l.length _ rfl hT3.out ⟨E.toArray⟩ rfl (by rw [HEs.out]; omega) ?_; intro ao2 cap2 w4 hown hgrow hat)
          go_roundw
          case rel =>
            rw [HEs.out] at hown hat
            refine ⟨k + 1, by omega, by go_num, v2, ?_, ?_⟩
            · have e1 : encAll (L.take (k + 1)) = l ++ E := by rw [encAll_take hlt, HE.out, ← HEE.out, ← HL.out]
              rw [e1]
              refine hT3.app hs3 hgrow ?_ hat
              rw [cellsOf_append, List.length_append]
              exact hown
            · exact HB3.out.grown hgrow hs3 hT3.bo
          case measure => simp [intOf]; omega
        · have hev : (x.n.tmod 2 == 0) = false := by simpa using hev
          rw [hkd]
          have HE := Lib.hid ((congrArg encIt HX.out.symm).trans (encP2b hkd hev))
          clear hkd
          go_wp2_with fail
          refine (bool_any _ v _ false _ hTa.wr (by omega)).mono ?_
          rintro e w2 ⟨rfl, v2, hW2, hC2⟩
          replace hW2 : Wr w2 w0.heap.size v2 (l ++ numBytes 0 4) := hW2
          have hcx : w2.cell? ⟨wr.heap.size, 1, none⟩ = some (.int .i64 x.n) := by
            rw [item_kept hT.wr hC2]; simp [World.cell?_alloc_at]
          have hT2 := hTa.write (by simp; omega) hC2 hW2
          have HB2 := Lib.hid (HBa.out.trans (hC2.below (B := w.heap.size) (by simp; omega) hTa.bp hTa.bv))
          clear hW2 hC2
          go_wp2_with fail
          refine (bool_nil _).mono ?_
          rintro e w' ⟨rfl, rfl⟩
          go_wp2_with fail
          refine (refUint_any _ _).mono ?_
          rintro e w3 ⟨rfl, hB3⟩
          have hT3 := hT2.below hB3
          have HB3 := Lib.hid (HB2.out.trans (hB3.mono HB2.out.size))
          have hs3 : w.heap.size ≤ w3.heap.size := HB3.out.size
          clear hB3 hT2 HB2 hcx
          obtain ⟨E, hEE⟩ : ∃ E, E = numBytes 0 4 := ⟨_, rfl⟩
          have hEl : E.length ≤ x.text.size + 8 := by rw [hEE, ← HE.out, ← HX.out]; exact encIt_length x
          have hEs : ({ data := E.toArray } : ByteArray).size = E.length := by simp [ByteArray.size]
          rw [← hEE] at hT3 ⊢
          have HEE := Lib.hid hEE
          have HEs := Lib.hid hEs
          clear hEE hEs
          go_wp2_with (at_builtin; refine wpList_append_str_at _ rfl (.tmp 77) (.tmp 79) 24 9 rfl 5 i0 Try.underlying24 Try.underlying9 hi hz0 hz1 hz2 u5 l.length _ rfl hT3.out ⟨E.toArray⟩ rfl (by rw [HEs.out]; omega) ?_; intro ao2 cap2 w4 hown hgrow hat)
          go_roundw
          case rel =>
            rw [HEs.out] at hown hat
            refine ⟨k + 1, by omega, by go_num, v2, ?_, ?_⟩
            · have e1 : encAll (L.take (k + 1)) = l ++ E := by rw [encAll_take hlt, HE.out, ← HEE.out, ← HL.out]
              rw [e1]
              refine hT3.app hs3 hgrow ?_ hat
              rw [cellsOf_append, List.length_append]
              exact hown
            · exact HB3.out.grown hgrow hs3 hT3.bo
          case measure => simp [intOf]; omega
      · rw [hkd]
        have HE := Lib.hid ((congrArg encIt HX.out.symm).trans (encP3 hkd))
        clear hkd
        go_wp2_with fail
        refine (opaque_any _ v _ x.text _ hTa.wr (by omega)).mono ?_
        rintro e w2 ⟨rfl, v2, hW2, hC2⟩
        have hcx : w2.cell? ⟨wr.heap.size, 2, none⟩ = some (.string x.text) := by
          rw [item_kept hT.wr hC2]; simp [World.cell?_alloc_at]
        have hT2 := hTa.write (by simp; omega) hC2 hW2
        have HB2 := Lib.hid (HBa.out.trans (hC2.below (B := w.heap.size) (by simp; omega) hTa.bp hTa.bv))
        clear hW2 hC2
        go_wp2_with fail
        refine (opaque_nil _ _).mono ?_
        rintro e w' ⟨rfl, rfl⟩
        go_wp2_with fail
        refine (refOpaque_any _ _ (by omega)).mono ?_
        rintro e w3 ⟨rfl, hB3⟩
        have hT3 := hT2.below hB3
        have HB3 := Lib.hid (HB2.out.trans (hB3.mono HB2.out.size))
        have hs3 : w.heap.size ≤ w3.heap.size := HB3.out.size
        clear hB3 hT2 HB2 hcx
        obtain ⟨E, hEE⟩ : ∃ E, E = opaqueOf x.text := ⟨_, rfl⟩
        have hEl : E.length ≤ x.text.size + 8 := by rw [hEE, ← HE.out, ← HX.out]; exact encIt_length x
        have hEs : ({ data := E.toArray } : ByteArray).size = E.length := by simp [ByteArray.size]
        rw [← hEE] at hT3 ⊢
        have HEE := Lib.hid hEE
        have HEs := Lib.hid hEs
        clear hEE hEs
        go_wp2_with (at_builtin; refine wpList_append_str_at _ rfl (.tmp 90) (.tmp 93) 24 9 rfl 5 i0 Try.underlying24 Try.underlying9 hi hz0 hz1 hz2 u5 l.length _ rfl hT3.out ⟨E.toArray⟩ rfl (by rw [HEs.out]; omega) ?_; intro ao2 cap2 w4 hown hgrow hat)
        go_roundw
        case rel =>
          rw [HEs.out] at hown hat
          refine ⟨k + 1, by omega, by go_num, v2, ?_, ?_⟩
          · have e1 : encAll (L.take (k + 1)) = l ++ E := by rw [encAll_take hlt, HE.out, ← HEE.out, ← HL.out]
            rw [e1]
            refine hT3.app hs3 hgrow ?_ hat
            rw [cellsOf_append, List.length_append]
            exact hown
          · exact HB3.out.grown hgrow hs3 hT3.bo
        case measure => simp [intOf]; omega
      · rw [hkd]
        have HE := Lib.hid ((congrArg encIt HX.out.symm).trans (encP4 hkd))
        clear hkd
        go_wp2_with fail
        refine (fixed_any _ v _ x.text _ hTa.wr (by omega)).mono ?_
        rintro e w2 ⟨rfl, v2, hW2, hC2⟩
        have hcx : w2.cell? ⟨wr.heap.size, 2, none⟩ = some (.string x.text) := by
          rw [item_kept hT.wr hC2]; simp [World.cell?_alloc_at]
        have hT2 := hTa.write (by simp; omega) hC2 hW2
        have HB2 := Lib.hid (HBa.out.trans (hC2.below (B := w.heap.size) (by simp; omega) hTa.bp hTa.bv))
        clear hW2 hC2
        go_wp2_with fail
        refine (fixed_nil _ _).mono ?_
        rintro e w' ⟨rfl, rfl⟩
        go_wp2_with fail
        refine (refFixed_any _ _ (by omega)).mono ?_
        rintro e w3 ⟨rfl, hB3⟩
        have hT3 := hT2.below hB3
        have HB3 := Lib.hid (HB2.out.trans (hB3.mono HB2.out.size))
        have hs3 : w.heap.size ≤ w3.heap.size := HB3.out.size
        clear hB3 hT2 HB2 hcx
        obtain ⟨E, hEE⟩ : ∃ E, E = fixedOf x.text := ⟨_, rfl⟩
        have hEl : E.length ≤ x.text.size + 8 := by rw [hEE, ← HE.out, ← HX.out]; exact encIt_length x
        have hEs : ({ data := E.toArray } : ByteArray).size = E.length := by simp [ByteArray.size]
        rw [← hEE] at hT3 ⊢
        have HEE := Lib.hid hEE
        have HEs := Lib.hid hEs
        clear hEE hEs
        go_wp2_with (at_builtin; refine wpList_append_str_at _ rfl (.tmp 31) (.tmp 34) 24 9 rfl 5 i0 Try.underlying24 Try.underlying9 hi hz0 hz1 hz2 u5 l.length _ rfl hT3.out ⟨E.toArray⟩ rfl (by rw [HEs.out]; omega) ?_; intro ao2 cap2 w4 hown hgrow hat)
        go_roundw
        case rel =>
          rw [HEs.out] at hown hat
          refine ⟨k + 1, by omega, by go_num, v2, ?_, ?_⟩
          · have e1 : encAll (L.take (k + 1)) = l ++ E := by rw [encAll_take hlt, HE.out, ← HEE.out, ← HL.out]
            rw [e1]
            refine hT3.app hs3 hgrow ?_ hat
            rw [cellsOf_append, List.length_append]
            exact hown
          · exact HB3.out.grown hgrow hs3 hT3.bo
        case measure => simp [intOf]; omega
    · have hk' : k = L.length := by omega
      subst hk'
      rw [List.take_length] at hT
      obtain ⟨l, hl⟩ : ∃ l, l = encAll L := ⟨_, rfl⟩
      rw [← hl] at hT
      have hl2 : l.length ≤ 2097152 := by rw [hl]; have := encAll_length L; omega
      have hcv : ∀ n, (convert 24 9 u5).run Try.prog (wr.drewN n) = .ok (.string ⟨l.toArray⟩) (wr.drewN n) := fun n => own_string (P := Try.prog) (w := wr.drewN n) hT.out 24 9 Try.underlying24 Try.underlying5 Try.underlying9
      have hWr := hT.wr
      clear hl hk hlt hT
      go_wp2_with fail
      go_quiet ((first | (go_at_call_of 20 (Value.pointer none); exact Calls.quiet_of_same (bytes_nil _)) | (go_at_call 20; exact Calls.quiet_of_same (bytes_same _ _ _ _ (hWr.drewN _)))))
      go_wp2
      go_ret
      exact ⟨rfl, ⟨HBe.out.os, HBe.out.tape, HBe.out.output, HBe.out.size, HBe.out.block⟩⟩
end Go.Proofs.Ytjkkneeomjfieaa
