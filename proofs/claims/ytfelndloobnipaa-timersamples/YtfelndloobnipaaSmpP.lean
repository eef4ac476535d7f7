/-
  TimerSamples is true at every input, and its arguments read as they did. No condition.
-/
import Derived.Test.YtfelndloobnipaaSmpW
import Derived.Test.YtfelndloobnipaaFin
import Derived.Deep.Slices
import Derived.ChangeSlices
namespace Go.Proofs.Ytfelndloobnipaa
open Go.ChangeShapes Go.WideShapes Go.ChangeAt Go.RowKit

theorem plain_addr {w : World} {a : Addr} {v : Value} (h : w.cell? a = some v) : a = ⟨a.block, a.off, none⟩ := by
  obtain ⟨g, off, sp⟩ := a
  cases sp with
  | none => rfl
  | some k => simp [World.cell?] at h; split at h <;> simp at h
theorem cell_block {w : World} {a : Addr} {v : Value} (h : w.cell? a = some v) : a.block < w.heap.size := World.block_lt_of_cell? w a h
theorem add_plain (b o i : Nat) : (⟨b, o, none⟩ : Addr).add i = ⟨b, o + i, none⟩ := by unfold Addr.add; split <;> simp_all
theorem Try.cells32 : Try.prog.cellsOf 32 = 1 := by kernel_rfl
section
variable {H : Type} {enc : TypeId × Value → H}
theorem open_words {W : World} {v : Value} {d : DataW H} {p : List MemPlace} {base : Nat} (hv : Value.okWide Try.prog W .any base 22 v) (h : DataW.Trod enc Try.prog W 0 (fun _ => true) true 22 v d p) :
    ∃ (L : List Nat) (ao : Option Addr) (cap : Nat), v = .slice ao L.length cap ∧ WrdAt W ao L ∧ (d = .nil ∧ L = [] ∨ ∃ es sp, d = .slice es sp ∧ es.length = L.length) := by
  obtain ⟨a0, len0, cap0, rfl⟩ := okWide_slice Try.underlying22 hv
  obtain ⟨fuel, hf⟩ := h
  rcases ChangeShapes.open_ints Try.underlying22 Try.underlying32 Try.cells32 hf with ⟨hcs, hx⟩ | ⟨a, len, cap, ss, hcs, hb, hl, hm, hlen, hx, hi, hz⟩
  · simp [Value.cells] at hcs
    obtain ⟨rfl, rfl, rfl⟩ := hcs
    cases hx
    exact ⟨[], none, 0, rfl, fun i hi => absurd hi (by simp), .inl ⟨rfl, rfl⟩⟩
  · simp [Value.cells] at hcs
    obtain ⟨rfl, rfl, rfl⟩ := hcs
    have hls : len0 ≤ ss.length := by rw [hlen]; simpa using hl
    have hlt : ((ss.take len0).map Int.toNat).length = len0 := by rw [List.length_map, List.length_take]; omega
    cases hx
    refine ⟨(ss.take len0).map Int.toNat, some a, cap0, by rw [hlt], ?_, .inr ⟨_, _, rfl, by rw [hlt]; simp [lits]; omega⟩⟩
    intro i hil
    rw [hlt] at hil
    have h0 := hi 0 (by omega)
    have ha0 : a = ⟨a.block, a.off, none⟩ := by simpa [Addr.add] using plain_addr h0
    have hgl : a.block < W.heap.size := by simpa [Addr.add] using cell_block h0
    have hg : ss.getD i 0 = ss[i]'(by omega) := by simp [List.getD_eq_getElem?_getD, List.getElem?_eq_getElem (show i < ss.length by omega)]
    have hwf := hz (ss[i]'(by omega)) (List.getElem_mem _)
    have h2 : 0 ≤ ss[i]'(by omega) := by
      simp [Lit.wf, IntKind.min, IntKind.max, IntKind.bits, IntKind.signed] at hwf
      omega
    refine ⟨a.block, a.off, by rw [← ha0], hgl, ?_, ?_⟩
    · have h1 := hi i (by omega)
      have e : a.add i = ⟨a.block, a.off + i, none⟩ := by
        rw [ha0]; exact add_plain _ _ _
      rw [e, hg] at h1
      rw [h1]
      simp [Int.toNat_of_nonneg h2]
    · have := u64_lt hwf
      simp
      omega
end

theorem timerSamples_contract (H : Type) (enc : TypeId × Value → H) (W : World) (base : Nat) (args : Array Value) (ds gs : List (DataW H)) (before : List MemPlace)
    (hval : ∀ (j : Nat) t v, Try.f3.params[j]? = some t → args[j]? = some v → Value.okWide Try.prog W .any base t v)
    (hW : DataW.Whole enc Try.prog Try.f3.params.toList Rows.timerSamplesSpec.vars false W args.toList ds gs before) (hsz : (DataW.weightsEach Try.prog (Try.f3.params.toList ++ Rows.timerSamplesSpec.plain.varTypes Try.prog) (ds ++ gs)).all (· ≤ reachBytes) = true) :
    Calls Try.prog 3 args W fun e W' => ∃ v, e = .returned v ∧ Rows.timerSamplesSpec.post enc Try.prog Try.f3 false true false false W args v W' := by
  have hW' := hW
  obtain ⟨p, q, hA0, hV, rfl, hfz, hnd⟩ := hW
  have hA : DataW.TrodAll enc Try.prog W 0 (fun _ => true) true Try.f3.params.toList args.toList ds p := hA0
  rw [Try.params3] at hA hval
  obtain ⟨v0, vs0, d0, ds0, p0, q0, hargs, rfl, rfl, h0, r0⟩ := trodAll_cons hA
  obtain ⟨v1, vs1, d1, ds1, p1, q1, rfl, rfl, rfl, h1, r1⟩ := trodAll_cons r0
  obtain ⟨rfl, rfl, rfl⟩ := trodAll_nil r1
  obtain rfl : args = #[v0, v1] := by cases args; simp_all
  obtain ⟨rfl, rfl⟩ := trodVars_none hV
  rw [Try.params3] at hsz
  obtain ⟨L, ao, cap, rfl, hA1, hb⟩ := open_words (hval 0 22 v0 rfl rfl) h0
  obtain ⟨a1, rfl, rfl, rfl, w1⟩ := open_int Try.underlying3 (hval 1 3 v1 rfl rfl) h1
  have hl : L.length * 8 ≤ 140737488355328 := by
    rcases hb with ⟨_, rfl⟩ | ⟨es, sp, rfl, he⟩
    · simp
    · have hb := sized_slice hsz (j := 0) (t := 22) rfl rfl Try.underlying22
      rw [show Try.prog.bytesOf 32 = 8 from by kernel_rfl] at hb
      have := reachBytes_lt
      omega
  exact (samples_walk L ao cap a1 W hA1 hl).mono fun e W' ⟨he, hg⟩ => ⟨_, he, law_post [22, 3] (by rw [Try.params3]) (by kernel_rfl) hW' rfl rfl rfl rfl rfl hg⟩

set_option maxRecDepth 100000 in
theorem timerSamples_lifted (os : Os) (started : os.Started) (H : Type) (enc : TypeId × Value → H) :
    ReturnsInHanded {} Try.checked os 3 .any (Rows.timerSamplesSpec.pre6 enc Try.prog Try.f3 Rows.timerSamplesRow.domain false) (Rows.timerSamplesSpec.post enc Try.prog Try.f3 false true false false) := by
  refine returnsInHanded_of_change_sized (C := Try.checked) own started (by kernel_rfl) Try.func3
    (ChangeSpec.witness6 (enc := enc) (C := Try.checked) false ⟨#[], #[.slice none 0 0, .int .i64 0], []⟩ 8 (by kernel_rfl) (by kernel_rfl) (by kernel_rfl) (by kernel_rfl)) ?_
  intro W base args ds gs before hval hW hcnd hsz _
  exact timerSamples_contract H enc W base args ds gs before hval hW hsz

theorem timerSamples_holds : Rows.TimerSamplesSaid :=
  OpenClaim.holds_of_wide 3 Try.f3 rfl rfl rfl rfl rfl rfl rfl ⟨rfl, rfl, rfl, rfl, rfl⟩ rfl rfl rfl rfl rfl (by kernel_rfl) Try.func3 (by kernel_rfl)
    (of_decide_eq_true (by kernel_rfl)) (by unfold Func.isWrapper; first | (rw [if_pos (by decide +kernel)]; kernel_rfl) | (rw [if_neg (by decide +kernel)]; exact ⟨rfl, rfl⟩))
    (fun os started H enc _ => timerSamples_lifted os started H enc)
end Go.Proofs.Ytfelndloobnipaa

