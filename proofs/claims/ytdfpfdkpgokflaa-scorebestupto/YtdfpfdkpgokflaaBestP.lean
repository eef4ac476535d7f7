/-
  ScoreBest is true at every input of bulk at most 1048576, and its arguments read as they did. No other condition.
-/
import Derived.Test.YtdfpfdkpgokflaaBestW
import Derived.Test.YtdfpfdkpgokflaaFin
import Derived.Deep.Slices
import Derived.ChangeSlices
namespace Go.Proofs.Ytdfpfdkpgokflaa
open Go.ChangeShapes Go.WideShapes Go.ChangeAt Go.RowKit

theorem plain_a {w : World} {a : Addr} {v : Value} (h : w.cell? a = some v) : a = ⟨a.block, a.off, none⟩ := by
  obtain ⟨g, off, sp⟩ := a
  cases sp with
  | none => rfl
  | some k => simp [World.cell?] at h; split at h <;> simp at h
theorem add_pl (b o i : Nat) : (⟨b, o, none⟩ : Addr).add i = ⟨b, o + i, none⟩ := by unfold Addr.add; split <;> simp_all
theorem Try.cellsOf3 : Try.prog.cellsOf 3 = 1 := by kernel_rfl
theorem bulkAll_le {H : Type} : ∀ L : List (DataW H), L.length ≤ Rows.uptoBulkAll L
  | [] => by simp
  | d :: r => by
    have := bulkAll_le r
    have h : 1 ≤ Rows.uptoBulk d := by cases d <;> (unfold Rows.uptoBulk; first | omega | (split <;> omega))
    rw [Rows.uptoBulkAll]
    simp only [List.length_cons]
    omega
section
variable {H : Type} {enc : TypeId × Value → H}
theorem open_list {W : World} {v : Value} {d : DataW H} {p : List MemPlace} {base : Nat} (hv : Value.okWide Try.prog W .any base 46 v) (h : DataW.Trod enc Try.prog W 0 (fun _ => true) true 46 v d p) :
    ∃ (L : List Int) (ao : Option Addr) (cap : Nat), v = .slice ao L.length cap ∧ IntsAt W ao L ∧ L.length ≤ Rows.uptoBulk d := by
  obtain ⟨a0, len0, cap0, rfl⟩ := okWide_slice Try.underlying46 hv
  obtain ⟨fuel, hf⟩ := h
  rcases ChangeShapes.open_ints Try.underlying46 Try.underlying3 Try.cellsOf3 hf with ⟨hcs, hx⟩ | ⟨a, len, cap, ss, hcs, hb, hl, hm, hlen, hx, hi, hz⟩
  · simp [Value.cells] at hcs
    obtain ⟨rfl, rfl, rfl⟩ := hcs
    cases hx
    exact ⟨[], none, 0, rfl, fun i hi => absurd hi (by simp), by simp⟩
  · simp [Value.cells] at hcs
    obtain ⟨rfl, rfl, rfl⟩ := hcs
    have hls : len0 ≤ ss.length := by rw [hlen]; simpa using hl
    have hlt : (ss.take len0).length = len0 := by rw [List.length_take]; omega
    cases hx
    refine ⟨ss.take len0, some a, cap0, by rw [hlt], ?_, ?_⟩
    · intro i hil
      rw [hlt] at hil
      have h0 := hi 0 (by omega)
      have ha0 : a = ⟨a.block, a.off, none⟩ := by simpa [Addr.add] using plain_a h0
      have hgl : a.block < W.heap.size := by simpa [Addr.add] using World.block_lt_of_cell? W _ h0
      have hg : ss.getD i 0 = ss[i]'(by omega) := by simp [List.getD_eq_getElem?_getD, List.getElem?_eq_getElem (show i < ss.length by omega)]
      refine ⟨a.block, a.off, by rw [← ha0], hgl, ?_⟩
      have h1 := hi i (by omega)
      have e : a.add i = ⟨a.block, a.off + i, none⟩ := by
        rw [ha0]; exact add_pl _ _ _
      rw [e, hg] at h1
      rw [h1]
      simp
    · rw [Rows.uptoBulk]
      have := bulkAll_le (lits .i64 (ss.take len0) : List (DataW H))
      have e : (lits .i64 (ss.take len0) : List (DataW H)).length = (ss.take len0).length := by simp [lits]
      omega
end

theorem scoreBest_contract (H : Type) (enc : TypeId × Value → H) (W : World) (base : Nat) (args : Array Value) (ds gs : List (DataW H)) (before : List MemPlace)
    (hval : ∀ (j : Nat) t v, Try.f8.params[j]? = some t → args[j]? = some v → Value.okWide Try.prog W .any base t v)
    (hW : DataW.Whole enc Try.prog Try.f8.params.toList Rows.scoreBestSpec.vars false W args.toList ds gs before) (hk : Rows.uptoSmall H (ds ++ gs) = true) :
    Calls Try.prog 8 args W fun e W' => ∃ v, e = .returned v ∧ Rows.scoreBestSpec.post enc Try.prog Try.f8 false true false false W args v W' := by
  have hW' := hW
  obtain ⟨p, q, hA0, hV, rfl, hfz, hnd⟩ := hW
  have hA : DataW.TrodAll enc Try.prog W 0 (fun _ => true) true Try.f8.params.toList args.toList ds p := hA0
  rw [Try.params8] at hA hval
  obtain ⟨v0, vs0, d0, ds0, p0, q0, hargs, rfl, rfl, h0, r0⟩ := trodAll_cons hA
  obtain ⟨v1, vs1, d1, ds1, p1, q1, rfl, rfl, rfl, h1, r1⟩ := trodAll_cons r0
  obtain ⟨rfl, rfl, rfl⟩ := trodAll_nil r1
  obtain rfl : args = #[v0, v1] := by cases args; simp_all
  obtain ⟨rfl, rfl⟩ := trodVars_none hV
  obtain ⟨L, ao, ca, rfl, hI, hl⟩ := open_list (hval 0 46 v0 rfl rfl) h0
  obtain ⟨M, bo, cb, rfl, hJ, hm⟩ := open_list (hval 1 46 v1 rfl rfl) h1
  have hb : Rows.uptoBulkAll [d0, d1] ≤ 1048576 := by
    have h := of_decide_eq_true hk
    simpa using h
  simp only [Rows.uptoBulkAll] at hb
  exact (best_walk L M ao bo ca cb W hI hJ (by omega) (by omega)).mono fun e W' ⟨he, hg⟩ => ⟨_, he, law_post [46, 46] (by rw [Try.params8]) (by kernel_rfl) hW' rfl rfl rfl rfl rfl hg⟩

set_option maxRecDepth 100000 in
theorem scoreBest_lifted (os : Os) (started : os.Started) (H : Type) (enc : TypeId × Value → H) (F : Stop.Interp) :
    ReturnsInHanded {} Try.checked os 8 .any ((Rows.OpenSpec.upto Rows.scoreBestSpec).pre6 enc Try.prog Try.f8 Rows.scoreBestUptoRow.domain false) (((Rows.OpenSpec.upto Rows.scoreBestSpec).at F).post enc Try.prog Try.f8 false true false false) := by
  refine returnsInHanded_of_cond (C := Try.checked) (s := Rows.OpenSpec.upto Rows.scoreBestSpec) (k := Rows.uptoSmall) rfl own started (by kernel_rfl) Try.func8
    (OpenSpec.witness (enc := enc) (C := Try.checked) (s := Rows.OpenSpec.upto Rows.scoreBestSpec) (k := Rows.uptoSmall) rfl false ⟨#[], #[.slice none 0 0, .slice none 0 0], []⟩ 8 (by kernel_rfl) (by kernel_rfl) (by kernel_rfl)
      (x := ([.nil, .nil], [], [])) (by kernel_rfl) rfl (by kernel_rfl)) ?_
  intro W base args ds gs before hval hW _ hk _
  exact scoreBest_contract H enc W base args ds gs before hval hW hk

theorem scoreBest_holds : Rows.ScoreBestUptoSaid :=
  OpenClaim.holds_of_cond 8 Try.f8 rfl rfl rfl rfl rfl rfl rfl ⟨rfl, rfl, rfl, rfl, rfl⟩ rfl rfl rfl rfl rfl (by kernel_rfl) Try.func8 (by kernel_rfl)
    (of_decide_eq_true (by kernel_rfl)) (by unfold Func.isWrapper; first | (rw [if_pos (by decide +kernel)]; kernel_rfl) | (rw [if_neg (by decide +kernel)]; exact ⟨rfl, rfl⟩))
    (fun os started H enc _ F => scoreBest_lifted os started H enc F)
end Go.Proofs.Ytdfpfdkpgokflaa
