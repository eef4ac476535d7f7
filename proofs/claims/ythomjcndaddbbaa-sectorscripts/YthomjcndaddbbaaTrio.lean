/-
  Several disks side by side, of which a call changes one; and many writes in a row. Their conditions: as said.
-/
import Derived.Test.YthomjcndaddbbaaArr
namespace Go.Proofs.Ythomjcndaddbbaa
open Go.RowKit

/-- A write whose answer nobody looks at. -/
def wstep (d : Dk) (x : Nat) (s : ByteArray) : Dk := if s.size ≤ 256 then (d.queued x s).wrote else d
/-- The first k of the texts, each written to its sector. -/
def wrs (F : List ByteArray) (sh : Nat) (d : Dk) : Nat → Dk
  | 0 => d
  | k + 1 => wstep (wrs F sh d k) ((k + sh) % 6) (F.getD k ⟨#[]⟩)

theorem wstep_L (d : Dk) (x : Nat) (s : ByteArray) : (wstep d x s).L = d.L := by unfold wstep; split <;> rfl
theorem wrs_L (F : List ByteArray) (sh : Nat) (d : Dk) : ∀ k, (wrs F sh d k).L = d.L
  | 0 => rfl
  | k + 1 => (wstep_L _ _ _).trans (wrs_L F sh d k)
/-- A disk with its power on, no cut set and room in its counts. -/
structure Calm (d : Dk) (m : Nat) : Prop where
  off : d.off = false
  cut : d.cut = 0
  q : d.Q.length ≤ m
  wr0 : 0 ≤ d.wr
  wr1 : d.wr ≤ m
  fl0 : 0 ≤ d.fl
  fl1 : d.fl ≤ m
theorem wstep_calm {d : Dk} {m : Nat} (h : Calm d m) (x : Nat) (s : ByteArray) : Calm (wstep d x s) (m + 1) := by
  have h1 := h.q; have h2 := h.wr0; have h3 := h.wr1; have h4 := h.fl1
  unfold wstep
  split
  · exact ⟨h.off, h.cut, by show (d.Q ++ _).length ≤ _; simp; omega, by show 0 ≤ d.wr + 1; omega, by show d.wr + 1 ≤ _; omega, h.fl0, by show d.fl ≤ _; omega⟩
  · exact ⟨h.off, h.cut, by omega, h2, by omega, h.fl0, by omega⟩
theorem wrs_calm {d : Dk} {m : Nat} (h : Calm d m) (F : List ByteArray) (sh : Nat) : ∀ k, Calm (wrs F sh d k) (m + k)
  | 0 => h
  | k + 1 => by have := wstep_calm (wrs_calm h F sh k) ((k + sh) % 6) (F.getD k ⟨#[]⟩); rw [Nat.add_assoc] at this; exact this
theorem flushed_calm {d : Dk} {m : Nat} (h : Calm d m) : Calm d.flushed (m + 1) := by
  have h1 := h.fl0; have h2 := h.fl1; have h3 := h.wr1
  exact ⟨h.off, h.cut, by simp [Dk.flushed], h.wr0, by show d.wr ≤ _; omega, by show 0 ≤ d.fl + 1; omega, by show d.fl + 1 ≤ _; omega⟩

def SomeInt (e : Ending) : Prop := ∃ c : Int, e = .returned (.int .i64 c)

section
variable {w0 w : World} {l : Loc} {v : Value} {d : Dk} {n : Nat}
theorem any_write (h : Mine w0 w l v d n) (x : Nat) (s : ByteArray) (hx : x < n) (m : Nat) (hc : Calm d m) (hm : m < 1000) :
    Calls Try.prog 11 #[.pointer (some ⟨l.p, 0, none⟩), .int .i64 x, .string s] w fun e w' => SomeInt e ∧ MineK w0 w l v (wstep d x s) n w' := by
  have h1 := hc.q; have h3 := hc.wr1
  by_cases hs : s.size ≤ 256
  · refine (my2_write h x s hx hs hc.off hc.cut (by omega) hc.wr0 (by omega)).mono ?_
    rintro e w' ⟨rfl, hk⟩
    refine ⟨⟨_, rfl⟩, ?_⟩
    unfold wstep; rw [if_pos hs]; exact hk
  · refine (write_long h.disk x s (by omega) (by rw [h.len]; omega) (by omega)).mono ?_
    rintro e w' ⟨rfl, rfl⟩
    refine ⟨⟨_, rfl⟩, ?_⟩
    unfold wstep; rw [if_neg hs]; exact ⟨v, h, Chg.refl _ _ _⟩
end

/-- The blocks of a disk. -/
def Foot (l : Loc) (v : Value) (k : Nat) : Prop := k = l.p ∨ k = l.b ∨ k = l.c ∨ some k = v.ownBlock
theorem Disk.foot {w : World} {l : Loc} {v : Value} {d : Dk} (h : Disk w l v d) {k : Nat} (hk : Foot l v k) : k < w.heap.size := by
  rcases hk with rfl | rfl | rfl | e
  · exact h.lt
  · exact h.ltb
  · exact h.ltc
  · exact h.vlt e.symm
theorem Chg.far {l : Loc} {v v' : Value} {w w' : World} (h : Chg l v v' w w') {k : Nat} (hk : k < w.heap.size) (hf : ¬ Foot l v k) : w'.heap[k]? = w.heap[k]? :=
  h.block k hk (fun e => hf (.inl e)) (fun e => hf (.inr (.inl e))) (fun e => hf (.inr (.inr (.inl e)))) (fun e => hf (.inr (.inr (.inr e))))
theorem Chg.foot {l : Loc} {v v' : Value} {w w' : World} (h : Chg l v v' w w') {k : Nat} (hf : Foot l v' k) : Foot l v k ∨ w.heap.size ≤ k := by
  rcases hf with e | e | e | e
  · exact .inl (.inl e)
  · exact .inl (.inr (.inl e))
  · exact .inl (.inr (.inr (.inl e)))
  · rcases h.own with o | o | ⟨g, o, hg⟩
    · rw [o] at e; cases e
    · rw [o] at e; exact .inl (.inr (.inr (.inr e)))
    · rw [o] at e; right
      have : k = g := by simpa using e
      omega
theorem Disk.besides {w w' : World} {l l' : Loc} {v u u' : Value} {d : Dk} (h : Disk w l v d) (hC : Chg l' u u' w w') (hd : ∀ k, Foot l v k → ¬ Foot l' u k) : Disk w' l v d := by
  have e : ∀ k, Foot l v k → w'.heap[k]? = w.heap[k]? := fun k hk => hC.far (h.foot hk) (hd k hk)
  exact ⟨(e _ (.inl rfl)).trans h.head, (e _ (.inr (.inl rfl))).trans h.rowL, (e _ (.inr (.inr (.inl rfl)))).trans h.rowS, ownsRow_of h.queue fun g hg => e g (.inr (.inr (.inr hg.symm))), h.apart, h.len⟩

def upd {α : Type} (f : Nat → α) (j : Nat) (x : α) : Nat → α := fun i => if i = j then x else f i
theorem upd_same {α : Type} (f : Nat → α) (j : Nat) (x : α) : upd f j x j = x := by simp [upd]
theorem upd_ne {α : Type} (f : Nat → α) {i j : Nat} (h : i ≠ j) (x : α) : upd f j x i = f i := by simp [upd, h]

def ptrOf (l : Nat → Loc) (m j : Nat) : Value := .pointer (if j < m then some ⟨(l j).p, 0, none⟩ else none)

/-- The first m of three disks, and the row of their addresses. -/
structure Trio (w0 w : World) (A m : Nat) (l : Nat → Loc) (v : Nat → Value) (d : Nat → Dk) : Prop where
  row : w.heap[A]? = some (.cells #[ptrOf l m 0, ptrOf l m 1, ptrOf l m 2] 56 (0, 0))
  mine : ∀ j, j < m → Mine w0 w (l j) (v j) (d j) 6
  apart : ∀ i j, i < m → j < m → i ≠ j → ∀ k, Foot (l i) (v i) k → ¬ Foot (l j) (v j) k
  atA : w0.heap.size ≤ A
  below : Below w0.heap.size w0 w

section
variable {w0 w : World} {A m : Nat} {l : Nat → Loc} {v : Nat → Value} {d : Nat → Dk}
theorem Trio.ltA (h : Trio w0 w A m l v d) : A < w.heap.size := (Array.getElem?_eq_some_iff.1 h.row).1
theorem Trio.farA (h : Trio w0 w A m l v d) {j : Nat} (hj : j < m) : ¬ Foot (l j) (v j) A := by
  have hD := (h.mine j hj).disk
  have hr := h.row
  rintro (e | e | e | e)
  · have := hD.head; rw [← e, hr] at this; simp at this
  · have := hD.rowL; rw [← e, hr] at this; simp at this
  · have := hD.rowS; rw [← e, hr] at this; simp at this
  · exact hD.ne hr (by decide) e
theorem Trio.cell (h : Trio w0 w A m l v d) (j : Nat) (hj : j < m) (hm : j < 3) : w.cell? ⟨A, j, none⟩ = some (.pointer (some ⟨(l j).p, 0, none⟩)) := by
  rw [cell_of_row w A j _ _ _ h.row]
  match j, hm with
  | 0, _ => simp [ptrOf, hj]
  | 1, _ => simp [ptrOf, hj]
  | 2, _ => simp [ptrOf, hj]
theorem Trio.step (h : Trio w0 w A m l v d) {j : Nat} (hj : j < m) {w' : World} {v' : Value} {d' : Dk} (hM : Mine w0 w' (l j) v' d' 6) (hC : Chg (l j) (v j) v' w w') : Trio w0 w' A m l (upd v j v') (upd d j d') := by
  refine ⟨(hC.far h.ltA (h.farA hj)).trans h.row, ?_, ?_, h.atA, hM.below⟩
  · intro i hi
    by_cases e : i = j
    · subst e; rw [upd_same, upd_same]; exact hM
    · rw [upd_ne _ e, upd_ne _ e]
      have hi2 := h.mine i hi
      exact ⟨hi2.disk.besides hC (h.apart i j hi hj e), hi2.ok, hi2.len, hM.below, hi2.atP, hi2.atB, hi2.atC, hi2.atV⟩
  · intro i k hi hk hik x hx
    by_cases e1 : i = j
    · subst e1
      rw [upd_same] at hx
      rw [upd_ne _ (fun e => hik e.symm)]
      rcases hC.foot hx with hx | hx
      · exact h.apart i k hi hk hik x hx
      · intro hy
        have := (h.mine k hk).disk.foot hy
        omega
    · rw [upd_ne _ e1] at hx
      by_cases e2 : k = j
      · subst e2
        rw [upd_same]
        intro hy
        rcases hC.foot hy with hy | hy
        · exact h.apart i k hi hk hik x hx hy
        · have := (h.mine i hi).disk.foot hx
          omega
      · rw [upd_ne _ e2]; exact h.apart i k hi hk hik x hx
/-- What makes new blocks leaves them alone. -/
theorem Trio.belowed (h : Trio w0 w A m l v d) {w' : World} (hb : Below w.heap.size w w') : Trio w0 w' A m l v d :=
  ⟨(hb.block A h.ltA).trans h.row, fun j hj => (h.mine j hj).belowed hb, h.apart, h.atA, h.below.trans (hb.mono h.below.size)⟩
theorem Trio.ext (h : Trio w0 w A m l v d) {d' : Nat → Dk} (he : ∀ j, j < m → d' j = d j) : Trio w0 w A m l v d' :=
  ⟨h.row, fun j hj => by rw [he j hj]; exact h.mine j hj, h.apart, h.atA, h.below⟩
/-- One disk more. -/
theorem Trio.more (h : Trio w0 w A m l v d) (hm : m < 3) {w' : World} {l' : Loc} {v' : Value} {d' : Dk} (hM : Mine w w' l' v' d' 6) :
    Trio w0 (w'.setCell ⟨A, m, none⟩ (.pointer (some ⟨l'.p, 0, none⟩))) A (m + 1) (upd l m l') (upd v m v') (upd d m d') := by
  have hr : w'.heap[A]? = some (.cells #[ptrOf l m 0, ptrOf l m 1, ptrOf l m 2] 56 (0, 0)) := (hM.below.block A h.ltA).trans h.row
  have hb : Below w0.heap.size w0 w' := h.below.trans (hM.below.mono h.below.size)
  have hfar : ∀ i, i < m → ∀ k, Foot (l i) (v i) k → k < w.heap.size := fun i hi k hk => (h.mine i hi).disk.foot hk
  have hnew : ∀ k, Foot l' v' k → w.heap.size ≤ k := by
    rintro k (e | e | e | e)
    · rw [e]; exact hM.atP
    · rw [e]; exact hM.atB
    · rw [e]; exact hM.atC
    · exact hM.atV k e.symm
  have hset : ∀ k, k ≠ A → (w'.setCell ⟨A, m, none⟩ (.pointer (some ⟨l'.p, 0, none⟩))).heap[k]? = w'.heap[k]? := fun k hk => Below.heap_setCell _ _ _ _ hk
  have hbs : Below w0.heap.size w0 (w'.setCell ⟨A, m, none⟩ (.pointer (some ⟨l'.p, 0, none⟩))) := hb.setCell h.atA _
  refine ⟨?_, ?_, ?_, h.atA, hbs⟩
  · rw [heap_set _ hr]
    congr 2
    match m, hm with
    | 0, _ => simp [ptrOf, upd]
    | 1, _ => simp [ptrOf, upd]
    | 2, _ => simp [ptrOf, upd]
  · intro i hi
    by_cases e : i = m
    · subst e
      rw [upd_same, upd_same, upd_same]
      have hD := hM.disk
      have hA : ∀ k, Foot l' v' k → k ≠ A := fun k hk e => by have := hnew k hk; have := h.ltA; omega
      exact ⟨⟨(hset _ (hA _ (.inl rfl))).trans hD.head, (hset _ (hA _ (.inr (.inl rfl)))).trans hD.rowL, (hset _ (hA _ (.inr (.inr (.inl rfl))))).trans hD.rowS, ownsRow_of hD.queue fun g hg => hset g (hA g (.inr (.inr (.inr hg.symm)))), hD.apart, hD.len⟩,
        hM.ok, hM.len, hbs, Nat.le_trans h.below.size hM.atP, Nat.le_trans h.below.size hM.atB, Nat.le_trans h.below.size hM.atC, fun k hk => Nat.le_trans h.below.size (hM.atV k hk)⟩
    · have hi' : i < m := by omega
      rw [upd_ne _ e, upd_ne _ e, upd_ne _ e]
      have hi2 := (h.mine i hi').belowed hM.below
      have hD := hi2.disk
      have hA : ∀ k, Foot (l i) (v i) k → k ≠ A := fun k hk e => h.farA hi' (e ▸ hk)
      exact ⟨⟨(hset _ (hA _ (.inl rfl))).trans hD.head, (hset _ (hA _ (.inr (.inl rfl)))).trans hD.rowL, (hset _ (hA _ (.inr (.inr (.inl rfl))))).trans hD.rowS, ownsRow_of hD.queue fun g hg => hset g (hA g (.inr (.inr (.inr hg.symm)))), hD.apart, hD.len⟩,
        hi2.ok, hi2.len, hbs, hi2.atP, hi2.atB, hi2.atC, hi2.atV⟩
  · intro i j hi hj hij k hk
    by_cases e1 : i = m
    · subst e1
      rw [upd_same, upd_same] at hk
      rw [upd_ne _ (fun e => hij e.symm), upd_ne _ (fun e => hij e.symm)]
      intro hy
      have := hfar j (by omega) k hy
      have := hnew k hk
      omega
    · rw [upd_ne _ e1, upd_ne _ e1] at hk
      by_cases e2 : j = m
      · subst e2
        rw [upd_same, upd_same]
        intro hy
        have := hfar i (by omega) k hk
        have := hnew k hy
        omega
      · rw [upd_ne _ e2, upd_ne _ e2]
        exact h.apart i j (by omega) (by omega) hij k hk
/-- A store into a row of texts beside them. -/
theorem Trio.arr (h : Trio w0 w A m l v d) {t : TypeId} {B : Nat} {O : List ByteArray} (hA : Arr t w B O) (ht : t ≠ 9 ∧ t ≠ 64 ∧ t ≠ 67) (ht2 : t ≠ 56) (hB : w0.heap.size ≤ B) (i : Nat) (x : Value) : Trio w0 (w.setCell ⟨B, i, none⟩ x) A m l v d := by
  have hAB : A ≠ B := by intro e; have := h.row; rw [e, hA] at this; simp at this; exact ht2 this.2
  exact ⟨(Below.heap_setCell _ _ _ _ hAB).trans h.row, fun j hj => (h.mine j hj).arr hA ht hB i x, h.apart, h.atA, h.below.setCell hB _⟩
end
end Go.Proofs.Ythomjcndaddbbaa
