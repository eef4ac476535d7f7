/-
  A whole form: parse, and what Check makes of it. No condition.
-/
import Derived.Test.YtjogcdkebplcpaaGreatDoorRo
import Derived.Defers
import Derived.Recover
namespace Go.Proofs.YtjogcdkebplcpaaGreatDoor
open Go.RowKit Sch

def ParsePost (w : World) (x : Option Row) (r : Ending) (w' : World) : Prop :=
  Below w.heap.size w w' ∧ match x with
    | none => r = Bad 1
    | some row => ∃ v, r = .returned v ∧ RowR w.heap.size row v w'
theorem ParsePost.none {w : World} {x : Option Row} {r : Ending} {w' : World} (hx : x = none) (hr : r = Bad 1) (hb : Below w.heap.size w w') : ParsePost w x r w' := by
  subst hx; exact ⟨hb, hr⟩
theorem ParsePost.some {w : World} {x : Option Row} {r : Ending} {w' : World} {row : Row} {v : Value} (hx : x = some row) (hr : r = .returned v) (hR : RowR w.heap.size row v w') (hb : Below w.heap.size w w') : ParsePost w x r w' := by
  subst hx; exact ⟨hb, v, hr, hR⟩

def endOf : Option (Row × List UInt8) → Option Row
  | some (r, []) => some r
  | _ => none
theorem form_eq (t : List UInt8) (h : t.length ≤ 1000) : form num5 t = endOf (pG num5 (t.length + 1) true 0 [] t) := by
  rw [form, if_neg (by omega)]; rfl
set_option maxRecDepth 100000 in
set_option maxHeartbeats 1000000 in
theorem parse_any (t : List UInt8) (w : World) : Calls Tryz.prog 13 #[.string ⟨t.toArray⟩] w (ParsePost w (form num5 t)) := by
  obtain ⟨S, hS⟩ : ∃ S : ByteArray, S = ⟨t.toArray⟩ := ⟨_, rfl⟩
  have hsz : S.size = t.length := by rw [hS]; show t.toArray.size = _; simp
  rw [← hS]
  obtain ⟨x0, hx0⟩ : ∃ x0, x0 = form num5 t := ⟨_, rfl⟩
  rw [← hx0]
  have HS := Lib.hid hS
  have HX0 := Lib.hid hx0
  have HSZ := Lib.hid hsz
  clear hS hx0
  go_enter Tryz.func13, Tryz.ntmps13
  by_cases hl : 1000 < S.size
  · have hl2 : 1000 < t.length := by omega
    clear hsz
    go_wp2_with fail
    refine (refuse_any 1 _).mono ?_
    rintro r w' ⟨rfl, rfl⟩
    go_wp2
    exact ⟨rfl, ParsePost.none (by rw [HX0.out, form, if_pos hl2]) rfl (Below.refl _ _)⟩
  · have hl2 : t.length ≤ 1000 := by omega
    clear hsz
    go_wp2_with fail
    have hpa : Pa (w.alloc (.cells #[.string S, .int .i64 0] 61 (0, 0))) w.heap.size t 0 := by
      rw [HS.out]; exact heap_alloc_new _ _
    have hbe : Below w.heap.size w (w.alloc (.cells #[.string S, .int .i64 0] 61 (0, 0))) := (Below.refl _ _).alloc (Nat.le_refl _) _
    have hsz : (w.alloc (.cells #[.string S, .int .i64 0] 61 (0, 0))).heap.size = w.heap.size + 1 := by simp
    generalize w.alloc (.cells #[.string S, .int .i64 0] 61 (0, 0)) = wa at *
    have HBE := Lib.hid hbe
    have HSA := Lib.hid hsz
    clear hbe hsz
    refine (row_any 1000 w.heap.size t 0 wa hpa hl2 hl2 (by omega)).mono ?_
    rintro r w1 ⟨hF, h1⟩
    have hb1 : Below w.heap.size w w1 := by
      have := HSA.out
      exact HBE.out.trans ⟨hF.os, hF.tape, hF.output, hF.size, fun k hk => hF.block k (by omega) (by omega)⟩
    have HB1 := Lib.hid hb1
    have hform := form_eq t hl2
    have HFO := Lib.hid hform
    clear hF hb1 hform hpa
    generalize hx : pG num5 (t.length + 1) true 0 [] t = x at h1
    have HX := Lib.hid hx
    clear hx
    cases x with
    | none =>
      simp only at h1
      subst h1
      go_wp2
      exact ⟨rfl, ParsePost.none (by rw [HX0.out, HFO.out, HX.out]; rfl) rfl HB1.out⟩
    | some y =>
      obtain ⟨row, t2⟩ := y
      obtain ⟨v, rfl, hv, h2⟩ := h1
      obtain ⟨c0, c1, f0, f1⟩ := h2.cells
      have HV := Lib.hid hv
      clear h2 hv
      cases t2 with
      | nil =>
        go_wp2
        go_ret
        exact ParsePost.some (row := row) (by rw [HX0.out, HFO.out, HX.out]; rfl) rfl (HV.out.kept (fun k hk => by have := HSA.out; have : wa.heap.size ≤ k := hk; show w.heap.size ≤ k; omega) fun _ _ _ => rfl) HB1.out
      | cons c t3 =>
        obtain ⟨R, hR⟩ : ∃ R : ByteArray, R = ⟨(c :: t3).toArray⟩ := ⟨_, rfl⟩
        have hne : ¬ R.toList = [] := by rw [hR, ByteArray.toList_eq]; simp
        have hem : R.toList.isEmpty = false := by simp [hne]
        rw [← hR] at c0
        have HR := Lib.hid hR
        clear hR
        go_wp2_with fail
        refine (refuse_any 1 _).mono ?_
        rintro r w' ⟨rfl, rfl⟩
        go_wp2
        exact ⟨rfl, ParsePost.none (by rw [HX0.out, HFO.out, HX.out]; rfl) rfl HB1.out⟩
end Go.Proofs.YtjogcdkebplcpaaGreatDoor
