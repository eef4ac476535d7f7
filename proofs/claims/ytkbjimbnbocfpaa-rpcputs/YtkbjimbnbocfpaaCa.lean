/-
  The laws' own call: a call and its twin. Its condition: the groups lie in memory.
-/
import Derived.Test.YtkbjimbnbocfpaaRgc
import Derived.Test.YtkbjimbnbocfpaaPu
import Derived.Deep.AppendLies
import Derived.Test.YtkbjimbnbocfpaaUx
import Derived.Deep.DeepCutAuto
import Derived.Deep.RegionHeld3
namespace Go.Proofs.Ytkbjimbnbocfpaa
open Go.RowKit
theorem run_append_c (w : World) (H : Nat) (ao : Option Addr) (G : List Int) (cap : Nat) (ty : TypeId) (hown : w.ownsRow 0 3 1 (.slice (some ⟨H, 0, none⟩) 0 0) 0 []) (hI : IntsAt w ao G) (hGl : 8 * G.length ≤ 140737488355328) (hH : w.heap.size = H + 1) :
    ∃ g cap' w', (Builtin.append_ #[23, 23] ty #[.slice (some ⟨H, 0, none⟩) 0 0, .slice ao G.length cap]).run Try.prog w = .ok (.slice (some ⟨g, 0, none⟩) G.length cap') w' ∧ w'.ownsRow 0 3 1 (.slice (some ⟨g, 0, none⟩) G.length cap') G.length (ints G) ∧ w.grownBy w' (some H) ∧ H ≤ g := by
  obtain ⟨i3, hi3, hz30, hz31, hz32⟩ := info_parts info3
  cases G with
  | nil =>
    refine ⟨H, 0, w, ?_, hown, World.grownBy.refl _ _, Nat.le_refl _⟩
    cases ao <;> simp [Builtin.append_, run_underlying Try.underlying23, sizeOf, typeInfo, hi3, storeCells, Builtin.lenOf, Builtin.firstCells, loadCells, loadCellsFrom]
  | cons x r =>
    obtain ⟨g0, off, rfl⟩ : ∃ g0 off, ao = some ⟨g0, off, none⟩ := by obtain ⟨g0, off, h, _⟩ := hI 0 (by simp); exact ⟨g0, off, h⟩
    have hnw : ∀ j u, (ints (x :: r))[j]? = some u → w.cell? ((⟨g0, off, none⟩ : Addr).add j) = some u := by
      intro j u hu
      have hj : j < (x :: r).length := by have := (List.getElem?_eq_some_iff.1 hu).1; simpa [ints] using this
      obtain ⟨g', off', e, hlt, hc⟩ := hI j hj
      simp only [Option.some.injEq, Addr.mk.injEq, and_true] at e
      obtain ⟨rfl, rfl⟩ := e
      have hu' : u = .int .i64 (x :: r)[j] := by simp only [ints, List.getElem?_map, List.getElem?_eq_getElem hj, Option.map_some, Option.some.injEq] at hu; exact hu.symm
      have hadd : (⟨g0, off, none⟩ : Addr).add j = ⟨g0, off + j, none⟩ := by unfold Addr.add; split <;> simp_all
      rw [hadd, hu']
      exact hc
    have hp : 0 < (x :: r).length := by simp
    generalize x :: r = G at *
    obtain ⟨g, cap', w', h1, h2, h3, h4, _⟩ := run_append_lies (P := Try.prog) w 23 ty 0 3 i3 _ 1 8 Try.underlying23 hi3 hz30 hz31 hz32 rfl (by omega) _ 0 [] hown ⟨g0, off, none⟩ G.length cap (ints G) (by simp [ints]) hnw (by simp [ints, Value.oneCell']) hp (by unfold maxLen; omega) (by omega) (by omega) w.heap.size rfl
    rw [Nat.zero_add] at h1 h2
    refine ⟨g, cap', w', h1, h2, h3, ?_⟩
    rcases h4 with h4 | h4
    · simp only [Value.ownBlock, Option.some.injEq] at h4
      omega
    · omega
theorem step_append_c {ops : Array Oper} {o : Oper} {a : Act} {K : Act → World → Prop} {Q : Exit → Act → World → Prop} {E : Prop} (w : World) (H : Nat) (ao : Option Addr) (G : List Int) (cap : Nat) (hgd : o.guard = none) (s x : Operand) (ho : o.op = .call { callee := .builtin .append, args := #[s, x], argTypes := #[23, 23] }) (hs : a.eval s = .slice (some ⟨H, 0, none⟩) 0 0) (hx : a.eval x = .slice ao G.length cap) (hown : w.ownsRow 0 3 1 (.slice (some ⟨H, 0, none⟩) 0 0) 0 []) (hI : IntsAt w ao G) (hGl : 8 * G.length ≤ 140737488355328) (hH : w.heap.size = H + 1)
    (h : ∀ g cap' w', w'.ownsRow 0 3 1 (.slice (some ⟨g, 0, none⟩) G.length cap') G.length (ints G) → w.grownBy w' (some H) → H ≤ g → K (a.put o.dst (.slice (some ⟨g, 0, none⟩) G.length cap')) w') :
    if Region.wanted o (yielded ops a.tmps) = true then Oper.wp Try.prog o a w K Q else E := by
  have hw : Region.wanted o (yielded ops a.tmps) = true := by simp [Region.wanted, hgd]
  rw [if_pos hw]
  obtain ⟨g, cap', w', hr, h2, h3, h4⟩ := run_append_c w H ao G cap o.type hown hI hGl hH
  unfold Oper.wp execOp
  simp only [ho, resolve, invoke, builtin, Sem.run_bind, Sem.run_pure, Result.andThen_ok, List.map_toArray, List.map_cons, List.map_nil, hs, hx, hr]
  exact h g cap' w' h2 h3 h4
theorem keepA {w : World} {k : Nat} {x : Obj} (o : Obj) (h : w.heap[k]? = some x) : (w.alloc o).heap[k]? = some x :=
  ((World.grownBy_alloc w o none).block k (Array.getElem?_eq_some_iff.1 h).1 (by simp)).trans h
theorem newA {w : World} {n : Nat} (o : Obj) (h : w.heap.size = n) : (w.alloc o).heap[n]? = some o := by
  subst h; exact heap_alloc_new w o
/-- The four blocks of call. -/
structure Cq (A B X Y : Nat) (a b c d : Int) (ux : Bool) (st uid gid : Int) (m : ByteArray) (sl : Value) (w : World) : Prop where
  a : w.heap[A]? = some (.cells #[.int .i64 a, .int .i64 b, .int .i64 c, .int .i64 d] 22 (0, 0))
  b : w.heap[B]? = some (.cells #[.bool ux, .int .i64 st, .int .i64 uid, .int .i64 gid, .string m, sl] 25 (0, 0))
  x : w.heap[X]? = some (.cells #[.int .i64 0, .int .i64 0, .int .i64 0, .int .i64 0, .bool false, .int .i64 0, .string ⟨#[]⟩, .int .i64 0, .int .i64 0, .slice none 0 0, .string ⟨#[]⟩] 30 (0, 0))
  y : w.heap[Y]? = some (.cells #[.int .i64 0, .int .i64 0, .int .i64 0, .int .i64 0, .bool false, .int .i64 0, .string ⟨#[]⟩, .int .i64 0, .int .i64 0, .slice none 0 0, .string ⟨#[]⟩] 32 (0, 0))
section
variable {A B X Y : Nat} {a b c d : Int} {ux : Bool} {st uid gid : Int} {m : ByteArray} {sl : Value} {w : World}
theorem Cq.drew (h : Cq A B X Y a b c d ux st uid gid m sl w) : Cq A B X Y a b c d ux st uid gid m sl w.drew := ⟨h.a, h.b, h.x, h.y⟩
theorem Cq.alloc (h : Cq A B X Y a b c d ux st uid gid m sl w) (o : Obj) : Cq A B X Y a b c d ux st uid gid m sl (w.alloc o) := ⟨keepA o h.a, keepA o h.b, keepA o h.x, keepA o h.y⟩
theorem Cq.grown {w' : World} {r : Option Nat} (h : Cq A B X Y a b c d ux st uid gid m sl w) (hg : w.grownBy w' r) (hA : some A ≠ r) (hB : some B ≠ r) (hX : some X ≠ r) (hY : some Y ≠ r) : Cq A B X Y a b c d ux st uid gid m sl w' :=
  ⟨(hg.block _ (Array.getElem?_eq_some_iff.1 h.a).1 hA).trans h.a, (hg.block _ (Array.getElem?_eq_some_iff.1 h.b).1 hB).trans h.b, (hg.block _ (Array.getElem?_eq_some_iff.1 h.x).1 hX).trans h.x, (hg.block _ (Array.getElem?_eq_some_iff.1 h.y).1 hY).trans h.y⟩
theorem Cq.ab (h : Cq A B X Y a b c d ux st uid gid m sl w) : w.cell? ⟨A, 0, none⟩ = some (.int .i64 a) ∧ w.cell? ⟨A, 1, none⟩ = some (.int .i64 b) ∧ w.cell? ⟨A, 2, none⟩ = some (.int .i64 c) ∧ w.cell? ⟨A, 3, none⟩ = some (.int .i64 d) ∧ w.cell? ⟨B, 0, none⟩ = some (.bool ux) ∧ w.cell? ⟨B, 1, none⟩ = some (.int .i64 st) ∧ w.cell? ⟨B, 2, none⟩ = some (.int .i64 uid) ∧ w.cell? ⟨B, 3, none⟩ = some (.int .i64 gid) ∧ w.cell? ⟨B, 4, none⟩ = some (.string m) ∧ w.cell? ⟨B, 5, none⟩ = some (sl) := by
  refine ⟨?_, ?_, ?_, ?_, ?_, ?_, ?_, ?_, ?_, ?_⟩ <;> first | (rw [cell_of_row w A _ _ _ _ h.a]; rfl) | (rw [cell_of_row w B _ _ _ _ h.b]; rfl)
theorem cell_other {w : World} {x i : Nat} {v : Value} {k j : Nat} (h : k ≠ x) : (w.setCell ⟨x, i, none⟩ v).cell? ⟨k, j, none⟩ = w.cell? ⟨k, j, none⟩ :=
  World.cell?_of_block (a := ⟨k, j, none⟩) (((Only.refl x w).set i v).block k h)
theorem ab_set {x i : Nat} {v : Value} (hA : A ≠ x) (hB : B ≠ x) (h : w.cell? ⟨A, 0, none⟩ = some (.int .i64 a) ∧ w.cell? ⟨A, 1, none⟩ = some (.int .i64 b) ∧ w.cell? ⟨A, 2, none⟩ = some (.int .i64 c) ∧ w.cell? ⟨A, 3, none⟩ = some (.int .i64 d) ∧ w.cell? ⟨B, 0, none⟩ = some (.bool ux) ∧ w.cell? ⟨B, 1, none⟩ = some (.int .i64 st) ∧ w.cell? ⟨B, 2, none⟩ = some (.int .i64 uid) ∧ w.cell? ⟨B, 3, none⟩ = some (.int .i64 gid) ∧ w.cell? ⟨B, 4, none⟩ = some (.string m) ∧ w.cell? ⟨B, 5, none⟩ = some (sl)) : (w.setCell ⟨x, i, none⟩ v).cell? ⟨A, 0, none⟩ = some (.int .i64 a) ∧ (w.setCell ⟨x, i, none⟩ v).cell? ⟨A, 1, none⟩ = some (.int .i64 b) ∧ (w.setCell ⟨x, i, none⟩ v).cell? ⟨A, 2, none⟩ = some (.int .i64 c) ∧ (w.setCell ⟨x, i, none⟩ v).cell? ⟨A, 3, none⟩ = some (.int .i64 d) ∧ (w.setCell ⟨x, i, none⟩ v).cell? ⟨B, 0, none⟩ = some (.bool ux) ∧ (w.setCell ⟨x, i, none⟩ v).cell? ⟨B, 1, none⟩ = some (.int .i64 st) ∧ (w.setCell ⟨x, i, none⟩ v).cell? ⟨B, 2, none⟩ = some (.int .i64 uid) ∧ (w.setCell ⟨x, i, none⟩ v).cell? ⟨B, 3, none⟩ = some (.int .i64 gid) ∧ (w.setCell ⟨x, i, none⟩ v).cell? ⟨B, 4, none⟩ = some (.string m) ∧ (w.setCell ⟨x, i, none⟩ v).cell? ⟨B, 5, none⟩ = some (sl) := by
  simp only [cell_other hA, cell_other hB]
  exact h
theorem Cq.xs (h : Cq A B X Y a b c d ux st uid gid m sl w) : w.cell? ⟨X, 0, none⟩ = some (.int .i64 0) ∧ w.cell? ⟨X, 1, none⟩ = some (.int .i64 0) ∧ w.cell? ⟨X, 2, none⟩ = some (.int .i64 0) ∧ w.cell? ⟨X, 3, none⟩ = some (.int .i64 0) ∧ w.cell? ⟨X, 4, none⟩ = some (.bool false) ∧ w.cell? ⟨X, 5, none⟩ = some (.int .i64 0) ∧ w.cell? ⟨X, 6, none⟩ = some (.string ⟨#[]⟩) ∧ w.cell? ⟨X, 7, none⟩ = some (.int .i64 0) ∧ w.cell? ⟨X, 8, none⟩ = some (.int .i64 0) ∧ w.cell? ⟨X, 9, none⟩ = some (.slice none 0 0) ∧ w.cell? ⟨X, 10, none⟩ = some (.string ⟨#[]⟩) := by
  refine ⟨?_, ?_, ?_, ?_, ?_, ?_, ?_, ?_, ?_, ?_, ?_⟩ <;> (rw [cell_of_row w X _ _ _ _ h.x]; rfl)
theorem Cq.ys (h : Cq A B X Y a b c d ux st uid gid m sl w) : w.cell? ⟨Y, 0, none⟩ = some (.int .i64 0) ∧ w.cell? ⟨Y, 1, none⟩ = some (.int .i64 0) ∧ w.cell? ⟨Y, 2, none⟩ = some (.int .i64 0) ∧ w.cell? ⟨Y, 3, none⟩ = some (.int .i64 0) ∧ w.cell? ⟨Y, 4, none⟩ = some (.bool false) ∧ w.cell? ⟨Y, 5, none⟩ = some (.int .i64 0) ∧ w.cell? ⟨Y, 6, none⟩ = some (.string ⟨#[]⟩) ∧ w.cell? ⟨Y, 7, none⟩ = some (.int .i64 0) ∧ w.cell? ⟨Y, 8, none⟩ = some (.int .i64 0) ∧ w.cell? ⟨Y, 9, none⟩ = some (.slice none 0 0) ∧ w.cell? ⟨Y, 10, none⟩ = some (.string ⟨#[]⟩) := by
  refine ⟨?_, ?_, ?_, ?_, ?_, ?_, ?_, ?_, ?_, ?_, ?_⟩ <;> (rw [cell_of_row w Y _ _ _ _ h.y]; rfl)
end
theorem four {w : World} (a b c d : Int) (ux : Bool) (st uid gid : Int) (m : ByteArray) (sl : Value) : ∃ W, ((((w.alloc (.cells #[.int .i64 a, .int .i64 b, .int .i64 c, .int .i64 d] 22)).alloc (.cells #[.bool ux, .int .i64 st, .int .i64 uid, .int .i64 gid, .string m, sl] 25)).alloc (.cells #[.int .i64 0, .int .i64 0, .int .i64 0, .int .i64 0, .bool false, .int .i64 0, .string ⟨#[]⟩, .int .i64 0, .int .i64 0, .slice none 0 0, .string ⟨#[]⟩] 30)).alloc (.cells #[.int .i64 0, .int .i64 0, .int .i64 0, .int .i64 0, .bool false, .int .i64 0, .string ⟨#[]⟩, .int .i64 0, .int .i64 0, .slice none 0 0, .string ⟨#[]⟩] 32)) = W ∧ Cq w.heap.size (w.heap.size + 1) (w.heap.size + 1 + 1) (w.heap.size + 1 + 1 + 1) a b c d ux st uid gid m sl W ∧ Below w.heap.size w W ∧ W.heap.size = w.heap.size + 4 ∧ ∀ ao G, IntsAt w ao G → IntsAt W ao G :=
  ⟨_, rfl, ⟨keepA _ (keepA _ (keepA _ (newA _ rfl))), keepA _ (keepA _ (newA _ (by simp))), keepA _ (newA _ (by simp)), newA _ (by simp)⟩, ((((Below.refl _ w).alloc (Nat.le_refl _) _).alloc (by simp) _).alloc (by simp; omega) _).alloc (by simp; omega) _, by simp, fun _ _ h => (((h.alloc _).alloc _).alloc _).alloc _⟩
theorem stored11 {w : World} {q : Nat} {T : TypeId} {z0 z1 z2 z3 z4 z5 z6 z7 z8 z9 z10 : Value} (v0 v1 v2 v3 v4 v5 v6 v7 v8 v9 v10 : Value) (h : w.heap[q]? = some (.cells #[z0, z1, z2, z3, z4, z5, z6, z7, z8, z9, z10] T (0, 0))) :
    (((((((((((w.setCell ⟨q, 0, none⟩ v0).setCell ⟨q, 1, none⟩ v1).setCell ⟨q, 2, none⟩ v2).setCell ⟨q, 3, none⟩ v3).setCell ⟨q, 4, none⟩ v4).setCell ⟨q, 5, none⟩ v5).setCell ⟨q, 6, none⟩ v6).setCell ⟨q, 7, none⟩ v7).setCell ⟨q, 8, none⟩ v8).setCell ⟨q, 9, none⟩ v9).setCell ⟨q, 10, none⟩ v10).heap[q]? = some (.cells #[v0, v1, v2, v3, v4, v5, v6, v7, v8, v9, v10] T (0, 0)) ∧ Only q w (((((((((((w.setCell ⟨q, 0, none⟩ v0).setCell ⟨q, 1, none⟩ v1).setCell ⟨q, 2, none⟩ v2).setCell ⟨q, 3, none⟩ v3).setCell ⟨q, 4, none⟩ v4).setCell ⟨q, 5, none⟩ v5).setCell ⟨q, 6, none⟩ v6).setCell ⟨q, 7, none⟩ v7).setCell ⟨q, 8, none⟩ v8).setCell ⟨q, 9, none⟩ v9).setCell ⟨q, 10, none⟩ v10) := by
  have h0 : (w.setCell ⟨q, 0, none⟩ v0).heap[q]? = some (.cells #[v0, z1, z2, z3, z4, z5, z6, z7, z8, z9, z10] T (0, 0)) := by rw [heap_set v0 h]; rfl
  have h1 : ((w.setCell ⟨q, 0, none⟩ v0).setCell ⟨q, 1, none⟩ v1).heap[q]? = some (.cells #[v0, v1, z2, z3, z4, z5, z6, z7, z8, z9, z10] T (0, 0)) := by rw [heap_set v1 h0]; rfl
  have h2 : (((w.setCell ⟨q, 0, none⟩ v0).setCell ⟨q, 1, none⟩ v1).setCell ⟨q, 2, none⟩ v2).heap[q]? = some (.cells #[v0, v1, v2, z3, z4, z5, z6, z7, z8, z9, z10] T (0, 0)) := by rw [heap_set v2 h1]; rfl
  have h3 : ((((w.setCell ⟨q, 0, none⟩ v0).setCell ⟨q, 1, none⟩ v1).setCell ⟨q, 2, none⟩ v2).setCell ⟨q, 3, none⟩ v3).heap[q]? = some (.cells #[v0, v1, v2, v3, z4, z5, z6, z7, z8, z9, z10] T (0, 0)) := by rw [heap_set v3 h2]; rfl
  have h4 : (((((w.setCell ⟨q, 0, none⟩ v0).setCell ⟨q, 1, none⟩ v1).setCell ⟨q, 2, none⟩ v2).setCell ⟨q, 3, none⟩ v3).setCell ⟨q, 4, none⟩ v4).heap[q]? = some (.cells #[v0, v1, v2, v3, v4, z5, z6, z7, z8, z9, z10] T (0, 0)) := by rw [heap_set v4 h3]; rfl
  have h5 : ((((((w.setCell ⟨q, 0, none⟩ v0).setCell ⟨q, 1, none⟩ v1).setCell ⟨q, 2, none⟩ v2).setCell ⟨q, 3, none⟩ v3).setCell ⟨q, 4, none⟩ v4).setCell ⟨q, 5, none⟩ v5).heap[q]? = some (.cells #[v0, v1, v2, v3, v4, v5, z6, z7, z8, z9, z10] T (0, 0)) := by rw [heap_set v5 h4]; rfl
  have h6 : (((((((w.setCell ⟨q, 0, none⟩ v0).setCell ⟨q, 1, none⟩ v1).setCell ⟨q, 2, none⟩ v2).setCell ⟨q, 3, none⟩ v3).setCell ⟨q, 4, none⟩ v4).setCell ⟨q, 5, none⟩ v5).setCell ⟨q, 6, none⟩ v6).heap[q]? = some (.cells #[v0, v1, v2, v3, v4, v5, v6, z7, z8, z9, z10] T (0, 0)) := by rw [heap_set v6 h5]; rfl
  have h7 : ((((((((w.setCell ⟨q, 0, none⟩ v0).setCell ⟨q, 1, none⟩ v1).setCell ⟨q, 2, none⟩ v2).setCell ⟨q, 3, none⟩ v3).setCell ⟨q, 4, none⟩ v4).setCell ⟨q, 5, none⟩ v5).setCell ⟨q, 6, none⟩ v6).setCell ⟨q, 7, none⟩ v7).heap[q]? = some (.cells #[v0, v1, v2, v3, v4, v5, v6, v7, z8, z9, z10] T (0, 0)) := by rw [heap_set v7 h6]; rfl
  have h8 : (((((((((w.setCell ⟨q, 0, none⟩ v0).setCell ⟨q, 1, none⟩ v1).setCell ⟨q, 2, none⟩ v2).setCell ⟨q, 3, none⟩ v3).setCell ⟨q, 4, none⟩ v4).setCell ⟨q, 5, none⟩ v5).setCell ⟨q, 6, none⟩ v6).setCell ⟨q, 7, none⟩ v7).setCell ⟨q, 8, none⟩ v8).heap[q]? = some (.cells #[v0, v1, v2, v3, v4, v5, v6, v7, v8, z9, z10] T (0, 0)) := by rw [heap_set v8 h7]; rfl
  have h9 : ((((((((((w.setCell ⟨q, 0, none⟩ v0).setCell ⟨q, 1, none⟩ v1).setCell ⟨q, 2, none⟩ v2).setCell ⟨q, 3, none⟩ v3).setCell ⟨q, 4, none⟩ v4).setCell ⟨q, 5, none⟩ v5).setCell ⟨q, 6, none⟩ v6).setCell ⟨q, 7, none⟩ v7).setCell ⟨q, 8, none⟩ v8).setCell ⟨q, 9, none⟩ v9).heap[q]? = some (.cells #[v0, v1, v2, v3, v4, v5, v6, v7, v8, v9, z10] T (0, 0)) := by rw [heap_set v9 h8]; rfl
  have h10 : (((((((((((w.setCell ⟨q, 0, none⟩ v0).setCell ⟨q, 1, none⟩ v1).setCell ⟨q, 2, none⟩ v2).setCell ⟨q, 3, none⟩ v3).setCell ⟨q, 4, none⟩ v4).setCell ⟨q, 5, none⟩ v5).setCell ⟨q, 6, none⟩ v6).setCell ⟨q, 7, none⟩ v7).setCell ⟨q, 8, none⟩ v8).setCell ⟨q, 9, none⟩ v9).setCell ⟨q, 10, none⟩ v10).heap[q]? = some (.cells #[v0, v1, v2, v3, v4, v5, v6, v7, v8, v9, v10] T (0, 0)) := by rw [heap_set v10 h9]; rfl
  exact ⟨h10, (((((((((((Only.refl q w).set 0 _).set 1 _).set 2 _).set 3 _).set 4 _).set 5 _).set 6 _).set 7 _).set 8 _).set 9 _).set 10 _⟩
theorem results_two {P : Program} {fn : Func} {p q : Tmp} {ty tz : TypeId} (h : fn.results = #[.cell p ty, .cell q tz]) (tmps : Array Value) (w : World) (g g' : Nat) (t t' : TypeId) (cs cs' : Array Value) (fr fr' : Nat × Nat) (d d' : TypeDesc)
    (hp : tmps.getD p undef = .pointer (some ⟨g, 0, none⟩)) (hq : tmps.getD q undef = .pointer (some ⟨g', 0, none⟩)) (hg : w.heap[g]? = some (.cells cs t fr)) (hg' : w.heap[g']? = some (.cells cs' t' fr'))
    (hu : P.underlying ty = some d) (hd : (match d with | .struct _ | .array _ _ => true | _ => false) = true) (hi : (P.info? ty).map (·.size) = some cs.size)
    (hu' : P.underlying tz = some d') (hd' : (match d' with | .struct _ | .array _ _ => true | _ => false) = true) (hi' : (P.info? tz).map (·.size) = some cs'.size) :
    (results fn tmps).run P w = .ok (.tuple #[.agg cs, .agg cs']) w := by
  have hp' : tmps[p]?.getD undef = .pointer (some ⟨g, 0, none⟩) := by simpa using hp
  have hq' : tmps[q]?.getD undef = .pointer (some ⟨g', 0, none⟩) := by simpa using hq
  simp [results, h, hp', hq', asAddr, run_loadVar_row w g t ty cs fr d hg hu hd hi, run_loadVar_row w g' t' tz cs' fr' d' hg' hu' hd' hi']
set_option maxRecDepth 100000 in
set_option maxHeartbeats 4000000 in
theorem call_any (a b c d : Int) (ux : Bool) (st uid gid : Int) (m : ByteArray) (G : List Int) (ao : Option Addr) (cap : Nat) (args : ByteArray) (w : World) (hI : IntsAt w ao G) (hGl : 8 * G.length ≤ 140737488355328) :
    Calls Try.prog 10 #[.agg #[.int .i64 a, .int .i64 b, .int .i64 c, .int .i64 d], .agg #[.bool ux, .int .i64 st, .int .i64 uid, .int .i64 gid, .string m, .slice ao G.length cap], .string args] w
      fun e w' => ∃ g cap', e = .returned (.tuple #[.agg #[.int .i64 a, .int .i64 b, .int .i64 c, .int .i64 d, .bool ux, .int .i64 st, .string m, .int .i64 uid, .int .i64 gid, .slice (some ⟨g, 0, none⟩) G.length cap', .string args], .agg #[.int .i64 a, .int .i64 b, .int .i64 c, .int .i64 d, .bool ux, .int .i64 st, .string m, .int .i64 uid, .int .i64 gid, .slice ao G.length cap, .string args]]) ∧ w'.ownsRow 0 3 1 (.slice (some ⟨g, 0, none⟩) G.length cap') G.length (ints G) ∧ Below w.heap.size w w' := by
  have HI := Lib.hid hI
  clear hI
  go_enter Try.func10, Try.ntmps10
  go_upto_region 1 with (fail)
  obtain ⟨W, hW, hC, hlow, hsz, hin⟩ := four (w := w) a b c d ux st uid gid m (.slice ao G.length cap)
  rw [hW]
  clear hW
  have HI4 := Lib.hid ((hin _ _ HI.out).alloc (.cells #[] 3))
  clear hin
  have l3 : w.heap.size + 1 + 1 + 1 < W.heap.size := by omega
  have l2 : w.heap.size + 1 + 1 < W.heap.size := by omega
  have l1 : w.heap.size + 1 < W.heap.size := by omega
  have l0 : w.heap.size < W.heap.size := by omega
  have d0 : w.heap.size ≠ w.heap.size + 1 := by omega
  have d1 : w.heap.size + 1 + 1 ≠ w.heap.size + 1 + 1 + 1 := by omega
  have d2 : w.heap.size ≠ w.heap.size + 1 + 1 := by omega
  have d3 : w.heap.size ≠ w.heap.size + 1 + 1 + 1 := by omega
  have d4 : w.heap.size + 1 ≠ w.heap.size + 1 + 1 := by omega
  have d5 : w.heap.size + 1 ≠ w.heap.size + 1 + 1 + 1 := by omega
  clear hsz
  have hax : w.heap.size ≤ w.heap.size + 1 + 1 ∧ w.heap.size ≤ w.heap.size + 1 + 1 + 1 := ⟨by omega, by omega⟩
  have HAX := Lib.hid hax
  clear hax
  generalize w.heap.size + 1 + 1 + 1 = Y at *
  generalize w.heap.size + 1 + 1 = X at *
  generalize w.heap.size + 1 = B at *
  generalize hA : w.heap.size = A at *
  have HAA := Lib.hid hA
  clear hA
  have HC := Lib.hid hC
  have HLOW := Lib.hid hlow
  clear hlow
  obtain ⟨p0, p1, p2, p3, q0, q1, q2, q3, q4, q5⟩ := hC.ab
  clear hC
  have HOE : Hid ((W.alloc (.cells #[] 3)).ownsRow 0 3 1 (.slice (some ⟨W.heap.size, 0, none⟩) 0 0) 0 []) := Lib.hid ⟨rfl, .inr ⟨W.heap.size, 0, #[], rfl, Nat.zero_le _, heap_alloc_new W _, Nat.le_refl _, by unfold maxLen; omega, rfl, rfl⟩⟩
  have HNE : Hid (some A ≠ some W.heap.size ∧ some B ≠ some W.heap.size ∧ some X ≠ some W.heap.size ∧ some Y ≠ some W.heap.size) := Lib.hid ⟨by simp; omega, by simp; omega, by simp; omega, by simp; omega⟩
  go_region_held3 (fun w' => w'.cell? ⟨A, 0, none⟩ = some (.int .i64 a) ∧ w'.cell? ⟨A, 1, none⟩ = some (.int .i64 b) ∧ w'.cell? ⟨A, 2, none⟩ = some (.int .i64 c) ∧ w'.cell? ⟨A, 3, none⟩ = some (.int .i64 d) ∧ w'.cell? ⟨B, 0, none⟩ = some (.bool ux) ∧ w'.cell? ⟨B, 1, none⟩ = some (.int .i64 st) ∧ w'.cell? ⟨B, 2, none⟩ = some (.int .i64 uid) ∧ w'.cell? ⟨B, 3, none⟩ = some (.int .i64 gid) ∧ w'.cell? ⟨B, 4, none⟩ = some (.string m) ∧ w'.cell? ⟨B, 5, none⟩ = some (.slice ao G.length cap)) (first | (with_reducible exact Cq.ab (by assumption)) | go_keep | (((repeat (with_reducible refine ab_set (by assumption) (by assumption) ?_)); (with_reducible exact Cq.ab (by assumption))))) (first | (refine step_append_c _ W.heap.size ao G cap (by rfl) _ _ (by rfl) (by rfl) (by rfl) (by exact HOE.out) (by exact HI4.out) hGl (by simp) ?_; intro g' cap' w6 hown1 hgrow hat; have hC6 := Cq.grown (HC.out.alloc (.cells #[] 3)).drew hgrow HNE.out.1 HNE.out.2.1 HNE.out.2.2.1 HNE.out.2.2.2; have hC6d := hC6.drew; obtain ⟨x0, x1, x2, x3, x4, x5, x6, x7, x8, x9, x10⟩ := hC6.xs; obtain ⟨y0, y1, y2, y3, y4, y5, y6, y7, y8, y9, y10⟩ := hC6.ys; have fx := fun o => Lib.frozen_of_heap hC6.x o; have fy := fun o => Lib.frozen_of_heap hC6.y o))
  have hs1 := stored11 (.int .i64 a) (.int .i64 b) (.int .i64 c) (.int .i64 d) (.bool ux) (.int .i64 st) (.string m) (.int .i64 uid) (.int .i64 gid) (.slice (some ⟨g', 0, none⟩) G.length cap') (.string args) hC6.x
  obtain ⟨k1, o1⟩ := hs1
  generalize (((((((((((w6.setCell ⟨X, 0, none⟩ (.int .i64 a)).setCell ⟨X, 1, none⟩ (.int .i64 b)).setCell ⟨X, 2, none⟩ (.int .i64 c)).setCell ⟨X, 3, none⟩ (.int .i64 d)).setCell ⟨X, 4, none⟩ (.bool ux)).setCell ⟨X, 5, none⟩ (.int .i64 st)).setCell ⟨X, 6, none⟩ (.string m)).setCell ⟨X, 7, none⟩ (.int .i64 uid)).setCell ⟨X, 8, none⟩ (.int .i64 gid)).setCell ⟨X, 9, none⟩ (.slice (some ⟨g', 0, none⟩) G.length cap')).setCell ⟨X, 10, none⟩ (.string args)) = U at k1 o1 ⊢
  have hy1 := (o1.block Y (Ne.symm d1)).trans hC6.y
  have hs2 := stored11 (.int .i64 a) (.int .i64 b) (.int .i64 c) (.int .i64 d) (.bool ux) (.int .i64 st) (.string m) (.int .i64 uid) (.int .i64 gid) (.slice ao G.length cap) (.string args) hy1
  obtain ⟨k2, o2⟩ := hs2
  generalize (((((((((((U.setCell ⟨Y, 0, none⟩ (.int .i64 a)).setCell ⟨Y, 1, none⟩ (.int .i64 b)).setCell ⟨Y, 2, none⟩ (.int .i64 c)).setCell ⟨Y, 3, none⟩ (.int .i64 d)).setCell ⟨Y, 4, none⟩ (.bool ux)).setCell ⟨Y, 5, none⟩ (.int .i64 st)).setCell ⟨Y, 6, none⟩ (.string m)).setCell ⟨Y, 7, none⟩ (.int .i64 uid)).setCell ⟨Y, 8, none⟩ (.int .i64 gid)).setCell ⟨Y, 9, none⟩ (.slice ao G.length cap)).setCell ⟨Y, 10, none⟩ (.string args)) = V at k2 o2 ⊢
  have k3 := (o2.block X d1).trans k1
  have hfo : V.ownsRow 0 3 1 (.slice (some ⟨g', 0, none⟩) G.length cap') G.length (ints G) := ownsRow_of hown1 fun k e => by
    simp only [Value.ownBlock, Option.some.injEq] at e
    exact (o2.block k (by omega)).trans (o1.block k (by omega))
  have hfb : Below w.heap.size w V := by
    have h0 := HLOW.out
    have hw : w.heap.size = A := HAA.out
    rw [hw]
    have h1 := (h0.alloc (by omega) (.cells #[] 3)).drew.grown hgrow (by simp; omega) (by intro k e; simp only [Option.some.injEq] at e; omega)
    exact (h1.trans (o1.below HAX.out.1)).trans (o2.below HAX.out.2)
  clear o1 o2 hC6 hC6d hgrow hat hown1 hy1 k1 x0 x1 x2 x3 x4 x5 x6 x7 x8 x9 x10 y0 y1 y2 y3 y4 y5 y6 y7 y8 y9 y10 fx fy
  have HK2 := Lib.hid k2
  have HK3 := Lib.hid k3
  have HFO := Lib.hid hfo
  have HFB := Lib.hid hfb
  clear k2 k3 hfo hfb
  go_wp2
  refine bodyPost_ret (results_two rfl _ _ X Y 30 32 _ _ (0, 0) (0, 0) _ _ rfl rfl HK3.out HK2.out Try.underlying30 rfl (by kernel_rfl) Try.underlying32 rfl (by kernel_rfl)) rfl ?_
  exact ⟨g', cap', rfl, HFO.out, HFB.out⟩
end Go.Proofs.Ytkbjimbnbocfpaa
