/-
  Several texts in one (As, Sr, Sq): parts of a walk. Their conditions: as each says.
-/
import Derived.Test.YtakfpfnaogdmlaaDoorAp
import Derived.Test.YtakfpfnaogdmlaaDoorLn
import Derived.Test.YtakfpfnaogdmlaaDoorDe
import Derived.Test.YtakfpfnaogdmlaaDoorEn
import Derived.Test.YtakfpfnaogdmlaaDoorCk
import Derived.Test.YtakfpfnaogdmlaaDoorVb
namespace Go.Proofs.YtakfpfnaogdmlaaDoor.B
open Go.RowKit
def SsAt (w : World) (ao : Option Addr) (L : List ByteArray) : Prop := ∀ i (_ : i < L.length), ∃ g off, ao = some ⟨g, off, none⟩ ∧ g < w.heap.size ∧ w.cell? ⟨g, off + i, none⟩ = some (.string L[i])
theorem SsAt.below {w w' : World} {ao : Option Addr} {L : List ByteArray} (h : SsAt w ao L) (hb : Below w.heap.size w w') : SsAt w' ao L := by
  intro i hi
  obtain ⟨g, off, e1, e2, e3⟩ := h i hi
  exact ⟨g, off, e1, Nat.lt_of_lt_of_le e2 hb.size, (World.cell?_of_block (a := ⟨g, off + i, none⟩) (hb.block g e2)).trans e3⟩
theorem strs_length (l : List ByteArray) : (strs l).length = l.length := by simp [strs]
theorem strs_append (a b : List ByteArray) : strs (a ++ b) = strs a ++ strs b := by simp [strs]
/-- What an append leaves. -/
structure AppTo (B : Nat) (w : World) (v : Value) (ys : List ByteArray) (v' : Value) (w' : World) : Prop where
  own : w'.ownsRow B 9 1 v' ys.length (strs ys)
  grown : w.grownBy w' v.ownBlock
  at_ : v'.ownBlock = v.ownBlock ∨ v'.ownBlock = some w.heap.size
theorem news_strs {w : World} {g off : Nat} {L : List ByteArray} (h : ∀ i (_ : i < L.length), w.cell? ⟨g, off + i, none⟩ = some (.string L[i])) : ∀ j u, (strs L)[j]? = some u → w.cell? ((⟨g, off, none⟩ : Addr).add j) = some u := by
  intro j u hu
  have hadd : (⟨g, off, none⟩ : Addr).add j = ⟨g, off + j, none⟩ := by unfold Addr.add; split <;> simp_all
  have hj : j < L.length := by
    rcases Nat.lt_or_ge j L.length with h | h
    · exact h
    · rw [List.getElem?_eq_none (by rw [strs_length]; exact h)] at hu; cases hu
  rw [hadd, h j hj]
  simpa [strs, List.getElem?_eq_getElem hj] using hu
theorem strs_one (L : List ByteArray) : ∀ u ∈ strs L, u.oneCell' = true := by
  intro u hu
  obtain ⟨n, _, rfl⟩ := List.mem_map.1 hu
  rfl
set_option maxRecDepth 100000 in
theorem run_app (w : World) (ty : TypeId) (B : Nat) (v : Value) (xs : List ByteArray) (hown : w.ownsRow B 9 1 v xs.length (strs xs)) (ao : Option Addr) (L : List ByteArray) (cap : Nat) (hI : SsAt w ao L)
    (hsz : (xs.length + L.length) * 16 ≤ 140737488355328) (hB : B ≤ w.heap.size) :
    ∃ v' w', (Builtin.append_ #[24, 24] ty #[v, .slice ao L.length cap]).run Tryd.prog w = .ok v' w' ∧ AppTo B w v (xs ++ L) v' w' := by
  obtain ⟨i0, hi, hz0, hz1, hz2⟩ := info_parts info9
  have hm : (xs.length + L.length) ≤ maxLen := by unfold maxLen; omega
  cases ao with
  | some a =>
    have hn : ∀ j u, (strs L)[j]? = some u → w.cell? (a.add j) = some u := by
      cases L with
      | nil => intro j u hu; simp [strs] at hu
      | cons x r =>
        obtain ⟨g, off, e1, _, _⟩ := hI 0 (by simp)
        injection e1 with e1
        subst e1
        refine news_strs fun i hi => ?_
        obtain ⟨g', off', e1, _, e3⟩ := hI i hi
        injection e1 with e1
        injection e1 with e1 e2 _
        subst e1 e2
        exact e3
    obtain ⟨v', w', hr, h2, h3, _, h5⟩ := run_append_own_at (P := Tryd.prog) w B 24 ty 9 i0 _ 1 16 Tryd.underlying24 hi hz0 hz1 hz2 rfl (by omega) v xs.length (strs xs) hown a L.length cap (strs L) (by rw [strs_length]; omega) hn (strs_one L) hm hsz hB
    refine ⟨v', w', hr, ⟨?_, h3, h5⟩⟩
    rw [List.length_append, strs_append]; exact h2
  | none =>
    have hL : L = [] := by
      cases L with
      | nil => rfl
      | cons x r => obtain ⟨g, off, e1, _, _⟩ := hI 0 (by simp); cases e1
    subst hL
    rw [List.append_nil]
    rcases hown.2 with ⟨rfl, h0⟩ | ⟨g, cap', cur, rfl, hb, hg, h3, h4, h5, h6⟩
    · have hx : xs = [] := List.eq_nil_of_length_eq_zero h0
      subst hx
      refine ⟨.slice none 0 0, w, ?_, ⟨hown, World.grownBy.refl _ _, .inl rfl⟩⟩
      simp [Builtin.append_, run_underlying Tryd.underlying24, sizeOf, typeInfo, hi, Builtin.lenOf, Builtin.firstCells]
    · refine ⟨.slice (some ⟨g, 0, none⟩) xs.length cap', w, ?_, ⟨hown, World.grownBy.refl _ _, .inl rfl⟩⟩
      have hr := run_append_room_src (P := Tryd.prog) w 24 24 ty 9 i0 Tryd.underlying24 hi g 0 xs.length cap' (.slice none 0 cap) 0 [] (by rw [hz1]; exact Src.ofNil w (e' := 9) Tryd.underlying24 cap) (by omega) (by simp) (by simp)
      rw [show ([] : List ByteArray).length = 0 from rfl, hr]
      rfl
theorem wp_app {o : Oper} {a : Act} {w : World} {K : Act → World → Prop} {Q : Exit → Act → World → Prop} (s x : Operand) (ho : o.op = .call { callee := .builtin .append, args := #[s, x], argTypes := #[24, 24] })
    (B : Nat) (v : Value) (xs : List ByteArray) (hs : a.eval s = v) (hown : w.ownsRow B 9 1 v xs.length (strs xs)) (ao : Option Addr) (L : List ByteArray) (cap : Nat) (hx : a.eval x = .slice ao L.length cap) (hI : SsAt w ao L)
    (hsz : (xs.length + L.length) * 16 ≤ 140737488355328) (hB : B ≤ w.heap.size) (h : ∀ v' w', AppTo B w v (xs ++ L) v' w' → K (a.put o.dst v') w') : o.wp Tryd.prog a w K Q := by
  obtain ⟨v', w', hr, h2⟩ := run_app w o.type B v xs hown ao L cap hI hsz hB
  unfold Oper.wp execOp
  simp only [ho, resolve, invoke, builtin, Sem.run_bind, Sem.run_pure, Result.andThen_ok, List.map_toArray, List.map_cons, List.map_nil, hs, hx, hr]
  exact h v' w' h2
theorem step_app {ops : Array Oper} {o : Oper} {a : Act} {w : World} {K : Act → World → Prop} {Q : Exit → Act → World → Prop} {E : Prop} (hgd : o.guard = none) (s x : Operand) (ho : o.op = .call { callee := .builtin .append, args := #[s, x], argTypes := #[24, 24] })
    (B : Nat) (v : Value) (xs : List ByteArray) (hs : a.eval s = v) (hown : w.ownsRow B 9 1 v xs.length (strs xs)) (ao : Option Addr) (L : List ByteArray) (cap : Nat) (hx : a.eval x = .slice ao L.length cap) (hI : SsAt w ao L)
    (hsz : (xs.length + L.length) * 16 ≤ 140737488355328) (hB : B ≤ w.heap.size) (h : ∀ v' w', AppTo B w v (xs ++ L) v' w' → K (a.put o.dst v') w') :
    if Region.wanted o (yielded ops a.tmps) = true then Oper.wp Tryd.prog o a w K Q else E := by
  rw [if_pos (by simp [Region.wanted, hgd])]
  exact wp_app s x ho B v xs hs hown ao L cap hx hI hsz hB h
theorem own_none (w : World) (B : Nat) : w.ownsRow B 9 1 (.slice none 0 0) ([] : List ByteArray).length (strs []) := ⟨by simp [strs], .inl ⟨rfl, rfl⟩⟩
theorem own_empty {w : World} {B g : Nat} (h : w.heap[g]? = some (.cells #[] 9 (0, 0))) (hB : B ≤ g) : w.ownsRow B 9 1 (.slice (some ⟨g, 0, none⟩) 0 0) ([] : List ByteArray).length (strs []) :=
  ⟨by simp [strs], .inr ⟨g, 0, #[], rfl, hB, h, by simp, by unfold maxLen; omega, by simp, by simp [strs]⟩⟩
theorem strs_of_own {w : World} {B : Nat} {vg : Value} {G : List ByteArray} (h : w.ownsRow B 9 1 vg G.length (strs G)) : ∃ ao cap, vg = .slice ao G.length cap ∧ SsAt w ao G ∧ G.length ≤ cap ∧ ∀ g off, ao = some ⟨g, off, none⟩ → g < w.heap.size := by
  have hh := h
  rcases h.2 with ⟨rfl, h0⟩ | ⟨g, cap, cur, rfl, _, hg, hnc, hcm, hcs, htake⟩
  · have hz : G = [] := List.eq_nil_of_length_eq_zero h0
    subst hz
    exact ⟨none, 0, rfl, fun i hi => absurd hi (by simp), by simp, by intro g off e; cases e⟩
  · have hlt : g < w.heap.size := (Array.getElem?_eq_some_iff.1 hg).1
    refine ⟨some ⟨g, 0, none⟩, cap, rfl, fun i hi => ⟨g, 0, rfl, hlt, ?_⟩, hnc, ?_⟩
    · have := hh.cells (g := g) rfl i (.string G[i]) (by simp [strs, List.getElem?_eq_getElem hi])
      rw [Nat.zero_add]
      by_cases h0 : i = 0
      · subst h0; simpa [Addr.add] using this
      · simpa [Addr.add, h0] using this
    · intro g' off e
      simp only [Option.some.injEq, Addr.mk.injEq, and_true] at e
      omega
theorem own_lt {w : World} {B g : Nat} {v : Value} {n : Nat} {xs : List Value} (h : w.ownsRow B 9 1 v n xs) (hg : v.ownBlock = some g) : B ≤ g ∧ g < w.heap.size := by
  rcases h.2 with ⟨hv, _⟩ | ⟨g', cap, cur, hv, hb, hh, _⟩
  · rw [hv] at hg; cases hg
  · rw [hv] at hg
    have : g' = g := by simpa [Value.ownBlock] using hg
    subst this
    exact ⟨hb, (Array.getElem?_eq_some_iff.1 hh).1⟩
theorem AppTo.below {B : Nat} {w w' : World} {v v' : Value} {ys : List ByteArray} {n : Nat} {xs : List Value} (h : AppTo B w v ys v' w') (hown : w.ownsRow B 9 1 v n xs) {w0 : World} (h0 : Below w0.heap.size w0 w) (hB : w0.heap.size ≤ B) : Below w0.heap.size w0 w' :=
  h0.grown h.grown h0.size fun k hk => by have := own_lt hown hk; omega
theorem list_app {ops : Array Oper} {rest : List Oper} {o : Oper} {a : Act} {w : World} {Q : Exit → Act → World → Prop} (hgd : o.guard = none) (s x : Operand) (ho : o.op = .call { callee := .builtin .append, args := #[s, x], argTypes := #[24, 24] })
    (B : Nat) (v : Value) (xs : List ByteArray) (hs : a.eval s = v) (hown : w.ownsRow B 9 1 v xs.length (strs xs)) (ao : Option Addr) (L : List ByteArray) (cap : Nat) (hx : a.eval x = .slice ao L.length cap) (hI : SsAt w ao L)
    (hsz : (xs.length + L.length) * 16 ≤ 140737488355328) (hB : B ≤ w.heap.size) (h : ∀ v' w', AppTo B w v (xs ++ L) v' w' → wpList Tryd.prog ops Q rest (a.put o.dst v') w') : wpList Tryd.prog ops Q (o :: rest) a w :=
  wpList_plain hgd fun _ hK => wp_app s x ho B v xs hs hown ao L cap hx hI hsz hB fun v' w' hT => hK _ _ (h v' w' hT)
theorem own_form {w : World} {B : Nat} {v : Value} {G : List ByteArray} (h : w.ownsRow B 9 1 v G.length (strs G)) : ∃ ao cap, v = .slice ao G.length cap ∧ SsAt w ao G ∧ G.length ≤ cap ∧ cap ≤ 9223372036854775807 := by
  obtain ⟨ao, cap, rfl, hI, hc, _⟩ := strs_of_own h
  refine ⟨ao, cap, rfl, hI, hc, ?_⟩
  rcases h.2 with ⟨e, _⟩ | ⟨g, c, cur, e, _, _, _, hm, _⟩
  · injection e with _ _ e; omega
  · injection e with _ _ e; subst e; unfold maxLen at hm; omega
end Go.Proofs.YtakfpfnaogdmlaaDoor.B
namespace Go.Proofs.YtakfpfnaogdmlaaDoor
open Go.RowKit Sch
namespace A
theorem own_form {w : World} {B : Nat} {v : Value} {G : List Int} (h : w.ownsRow B 3 1 v G.length (ints G)) : ∃ ao cap, v = .slice ao G.length cap ∧ IntsAt w ao G ∧ G.length ≤ cap ∧ cap ≤ 9223372036854775807 := by
  obtain ⟨ao, cap, rfl, hI, hc, _⟩ := ints_of_own h
  refine ⟨ao, cap, rfl, hI, hc, ?_⟩
  rcases h.2 with ⟨e, _⟩ | ⟨g, c, cur, e, _, _, _, hm, _⟩
  · injection e with _ _ e; omega
  · injection e with _ _ e; subst e; unfold maxLen at hm; omega
end A
theorem addr_plain (b o i : Nat) : (⟨b, o, none⟩ : Addr).add i = ⟨b, o + i, none⟩ := by unfold Addr.add; split <;> simp_all
theorem sp_dec : decO [63, 40, 117, 41, 111, 56] ⟨#[0, 0, 0, 1, 0, 0, 0, 7, 0, 0, 0, 2, 97, 98, 0, 0]⟩ = .ok ([1, 7], [⟨#[97, 98]⟩]) := by kernel_rfl
set_option maxRecDepth 100000 in
set_option maxHeartbeats 1000000 in
theorem speaks2_any (w : World) : Calls Tryd.prog 6 #[] w fun r w' => r = .returned (.bool true) ∧ Below w.heap.size w w' := by
  go_enter Tryd.func6, Tryd.ntmps6
  go_wp2_with fail
  refine (decode_any [63, 40, 117, 41, 111, 56] ⟨#[0, 0, 0, 1, 0, 0, 0, 7, 0, 0, 0, 2, 97, 98, 0, 0]⟩ w _ sp_dec).mono ?_
  rintro r w1 ⟨hB, vN, vT, rfl, hN, hT⟩
  obtain ⟨g, cap, rfl, _, _⟩ := hN.form (by decide)
  obtain ⟨k, cap2, rfl, _, _⟩ := hT.form (by decide)
  have c1 := cellAt0 hN 1 (.int .i64 7) rfl
  have c0 := cellAt0 hN 0 (.int .i64 1) rfl
  have t0 := cellAt0 hT 0 (.string ⟨#[97, 98]⟩) rfl
  obtain ⟨lg, hlg⟩ : ∃ x : Nat, x = ([1, 7] : List Int).length := ⟨_, rfl⟩
  have HB := Lib.hid hB
  have hgl : g < w1.heap.size := by assumption
  have hkl : k < w1.heap.size := by assumption
  clear hB hN hT
  simp only [List.length_cons, List.length_nil]
  have d1 : (w1.alloc (.cells #[.slice (some ⟨g, 0, none⟩) 2 cap, .slice (some ⟨k, 0, none⟩) 1 cap2] 31)).cell? ⟨g, 1, none⟩ = some (.int .i64 7) := (World.cell?_alloc_past _ _ _ hgl).trans c1
  have d2 : (w1.alloc (.cells #[.slice (some ⟨g, 0, none⟩) 2 cap, .slice (some ⟨k, 0, none⟩) 1 cap2] 31)).cell? ⟨k, 0, none⟩ = some (.string ⟨#[97, 98]⟩) := (World.cell?_alloc_past _ _ _ hkl).trans t0
  go_wp2
  go_ret
  exact ⟨rfl, HB.out.alloc HB.out.size _⟩
/-- What Encode answers, as a text and a number. -/
def encS (x : Except Int (List UInt8)) : ByteArray := match x with | .error _ => ⟨#[]⟩ | .ok b => ⟨b.toArray⟩
def encE (x : Except Int (List UInt8)) : Int := match x with | .error e => e | .ok _ => 0
theorem enc_u (S : ByteArray) (t : List UInt8) (hS : S = ⟨t.toArray⟩) (N : List Int) (T : List ByteArray) (aN : Option Addr) (cN : Nat) (aT : Option Addr) (cT : Nat) (w : World) (hN : A.IntsAt w aN N) (hT : B.SsAt w aT T) (hcn : N.length ≤ cN ∧ cN ≤ 9223372036854775807) (hct : T.length ≤ cT ∧ cT ≤ 9223372036854775807) (hK : N.length + T.length ≤ 4000000) (x : Except Int (List UInt8)) (hx : encO t N T = x) :
    Calls Tryd.prog 8 #[.string S, .agg #[.slice aN N.length cN, .slice aT T.length cT]] w fun r w' => r = .returned (.tuple #[.string (encS x), .int .i64 (encE x)]) ∧ Below w.heap.size w w' := by
  subst hS
  refine (encode_any t N T aN cN aT cT w (fun i hi => hN i hi) (fun i hi => hT i hi) hcn hct (by unfold worth; omega) x hx).mono ?_
  rintro r w' ⟨hb, hr⟩
  cases x with
  | error e => exact ⟨hr, hb⟩
  | ok b => exact ⟨hr, hb⟩
theorem info_e3 : Tryd.prog.elem 23 = 3 := by kernel_rfl
theorem info_e9 : Tryd.prog.elem 24 = 9 := by kernel_rfl
theorem und23 : Tryd.prog.underlying 23 = some (.slice (Tryd.prog.elem 23)) := by rw [info_e3]; exact Tryd.underlying23
theorem und24 : Tryd.prog.underlying 24 = some (.slice (Tryd.prog.elem 24)) := by rw [info_e9]; exact Tryd.underlying24
theorem size3 (w : World) : (sizeOf (Tryd.prog.elem 23)).run Tryd.prog w = .ok 1 w := by
  obtain ⟨i, hi, h0, h1, h2⟩ := info_parts info3
  rw [info_e3]
  simp [sizeOf, typeInfo, hi, h1]
theorem size9 (w : World) : (sizeOf (Tryd.prog.elem 24)).run Tryd.prog w = .ok 1 w := by
  obtain ⟨i, hi, h0, h1, h2⟩ := info_parts info9
  rw [info_e9]
  simp [sizeOf, typeInfo, hi, h1]
theorem ints_take {w : World} {ao : Option Addr} {L : List Int} (h : A.IntsAt w ao L) (k : Nat) : A.IntsAt w ao (L.take k) := by
  intro i hi
  rw [List.length_take] at hi
  obtain ⟨g, off, e1, e2, e3⟩ := h i (by omega)
  exact ⟨g, off, e1, e2, by rw [e3, List.getElem_take]⟩
theorem ss_take {w : World} {ao : Option Addr} {L : List ByteArray} (h : B.SsAt w ao L) (k : Nat) : B.SsAt w ao (L.take k) := by
  intro i hi
  rw [List.length_take] at hi
  obtain ⟨g, off, e1, e2, e3⟩ := h i (by omega)
  exact ⟨g, off, e1, e2, by rw [e3, List.getElem_take]⟩
def aDrop (ao : Option Addr) (c k : Nat) : Option Addr := if c = k then ao else ao.map (·.add (k * 1))
theorem ints_drop {w : World} {ao : Option Addr} {L : List Int} (h : A.IntsAt w ao L) (c k : Nat) (hc : L.length ≤ c) : A.IntsAt w (aDrop ao c k) (L.drop k) := by
  intro i hi
  rw [List.length_drop] at hi
  obtain ⟨g, off, e1, e2, e3⟩ := h (k + i) (by omega)
  subst e1
  refine ⟨g, off + k, ?_, e2, by rw [Nat.add_assoc, e3, List.getElem_drop]⟩
  unfold aDrop
  rw [if_neg (by omega)]
  show some _ = _
  simp only [Nat.mul_one, addr_plain]
theorem ss_drop {w : World} {ao : Option Addr} {L : List ByteArray} (h : B.SsAt w ao L) (c k : Nat) (hc : L.length ≤ c) : B.SsAt w (aDrop ao c k) (L.drop k) := by
  intro i hi
  rw [List.length_drop] at hi
  obtain ⟨g, off, e1, e2, e3⟩ := h (k + i) (by omega)
  subst e1
  refine ⟨g, off + k, ?_, e2, by rw [Nat.add_assoc, e3, List.getElem_drop]⟩
  unfold aDrop
  rw [if_neg (by omega)]
  show some _ = _
  simp only [Nat.mul_one, addr_plain]
theorem sl_take3 (ao : Option Addr) (n c k : Nat) (hk : k ≤ c) (w : World) : (Instr.slice 23 (.slice ao n c) none (some (.int .i64 k)) none).run Tryd.prog w = .ok (.slice ao k c) w := by
  rw [run_slice_h w 23 ao n c und23 .i64 k (by omega) (by omega), size3]
  by_cases h0 : c = 0 <;> cases ao <;> simp [Result.andThen, sliced, h0, Addr.add]
theorem sl_take9 (ao : Option Addr) (n c k : Nat) (hk : k ≤ c) (w : World) : (Instr.slice 24 (.slice ao n c) none (some (.int .i64 k)) none).run Tryd.prog w = .ok (.slice ao k c) w := by
  rw [run_slice_h w 24 ao n c und24 .i64 k (by omega) (by omega), size9]
  by_cases h0 : c = 0 <;> cases ao <;> simp [Result.andThen, sliced, h0, Addr.add]
theorem sl_drop3 (ao : Option Addr) (n c k : Nat) (hk : k ≤ n) (w : World) : (Instr.slice 23 (.slice ao n c) (some (.int .i64 k)) none none).run Tryd.prog w = .ok (.slice (aDrop ao c k) (n - k) (c - k)) w := by
  rw [run_slice_l w 23 ao n c und23 .i64 k (by omega) (by omega), size3]
  simp [Result.andThen, sliced, aDrop]
theorem sl_drop9 (ao : Option Addr) (n c k : Nat) (hk : k ≤ n) (w : World) : (Instr.slice 24 (.slice ao n c) (some (.int .i64 k)) none none).run Tryd.prog w = .ok (.slice (aDrop ao c k) (n - k) (c - k)) w := by
  rw [run_slice_l w 24 ao n c und24 .i64 k (by omega) (by omega), size9]
  simp [Result.andThen, sliced, aDrop]
end Go.Proofs.YtakfpfnaogdmlaaDoor
namespace Go.Proofs.YtakfpfnaogdmlaaDoor
open Go.RowKit Sch
theorem stepA_m {ops : Array Oper} {o : Oper} {a : Act} {w : World} {K : Act → World → Prop} {Q : Exit → Act → World → Prop} {E : Prop} (hgd : o.guard = none) (s x : Operand) (ho : o.op = .call { callee := .builtin .append, args := #[s, x], argTypes := #[23, 23] })
    (B : Nat) (v : Value) (xs : List Int) (hs : a.eval s = v) (hown : w.ownsRow B 3 1 v xs.length (A.ints xs)) (ao : Option Addr) (L : List Int) (m cap : Nat) (hm : L.length = m) (hx : a.eval x = .slice ao m cap) (hI : A.IntsAt w ao L)
    (hsz : (xs.length + L.length) * 8 ≤ 140737488355328) (hB : B ≤ w.heap.size) (h : ∀ v' w', A.AppTo B w v (xs ++ L) v' w' → K (a.put o.dst v') w') :
    if Region.wanted o (yielded ops a.tmps) = true then Oper.wp Tryd.prog o a w K Q else E := by
  subst hm
  exact A.step_app hgd s x ho B v xs hs hown ao L cap hx hI hsz hB h
theorem stepB_m {ops : Array Oper} {o : Oper} {a : Act} {w : World} {K : Act → World → Prop} {Q : Exit → Act → World → Prop} {E : Prop} (hgd : o.guard = none) (s x : Operand) (ho : o.op = .call { callee := .builtin .append, args := #[s, x], argTypes := #[24, 24] })
    (B : Nat) (v : Value) (xs : List ByteArray) (hs : a.eval s = v) (hown : w.ownsRow B 9 1 v xs.length (strs xs)) (ao : Option Addr) (L : List ByteArray) (m cap : Nat) (hm : L.length = m) (hx : a.eval x = .slice ao m cap) (hI : _root_.Go.Proofs.YtakfpfnaogdmlaaDoor.B.SsAt w ao L)
    (hsz : (xs.length + L.length) * 16 ≤ 140737488355328) (hB : B ≤ w.heap.size) (h : ∀ v' w', _root_.Go.Proofs.YtakfpfnaogdmlaaDoor.B.AppTo B w v (xs ++ L) v' w' → K (a.put o.dst v') w') :
    if Region.wanted o (yielded ops a.tmps) = true then Oper.wp Tryd.prog o a w K Q else E := by
  subst hm
  exact _root_.Go.Proofs.YtakfpfnaogdmlaaDoor.B.step_app hgd s x ho B v xs hs hown ao L cap hx hI hsz hB h
theorem own_grown {w w' : World} {v v1 : Value} {B B1 n n1 : Nat} {xs ys : List Value} (hgrow : w.grownBy w' v.ownBlock) (ho : w.ownsRow B 9 1 v n xs) (h1 : w.ownsRow B1 3 1 v1 n1 ys) : w'.ownsRow B1 3 1 v1 n1 ys :=
  ownsB_kept h1 fun k e => by
    obtain ⟨_, cur, hc⟩ := ownsB_type h1 e
    exact (grow_keeps hgrow ho k cur 3 _ (by decide) hc).trans hc.symm
end Go.Proofs.YtakfpfnaogdmlaaDoor
