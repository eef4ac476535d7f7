/-
  Which of a row of segments Pick picks. Its conditions: the row is no longer than memory.
-/
import Derived.Test.YtdfpfdkpgokflaaLs
import Derived.Test.YtdfpfdkpgokflaaOwn
import Derived.Deep.RegionWith
namespace Go.Proofs.Ytdfpfdkpgokflaa
open Go.RowKit Ieee

theorem write_num (neg : Bool) (mag : Nat) (place : Int) : nan (double.nearest neg mag place) = false := by
  have hw : ∀ (neg : Bool) (r : Nat), r ≤ 9218868437227405312 → nan (double.word neg r) = false := by
    intro neg r hr
    have : (double.word neg r) = if neg then 9223372036854775808 + r else r := rfl
    rw [this]
    apply decide_eq_false
    cases neg
    · simp; omega
    · simp; omega
  unfold Format.nearest
  dsimp only
  split
  · exact hw _ _ (by omega)
  · exact hw _ _ (Nat.min_le_right _ _)
theorem write_ok (d : Datum) (h : d.isNaN = false) : nan (double.write d) = false := by
  cases d with
  | number s m i => exact write_num s m i
  | infinity s => cases s <;> decide
  | nan s t => cases h
theorem sum_ok {a b d : Datum} (h : a.sum b = some d) : d.isNaN = false := by
  cases a <;> cases b <;> simp only [Datum.sum] at h <;> first | (cases h; done) | (cases h; rfl) | (split at h <;> first | (cases h; done) | (cases h; rfl))
theorem product_ok {a b d : Datum} (h : a.product b = some d) : d.isNaN = false := by
  cases a <;> cases b <;> simp only [Datum.product] at h <;> first | (cases h; done) | (cases h; rfl) | (split at h <;> first | (cases h; done) | (cases h; rfl))
theorem quotient_ok {k : Nat} {a b d : Datum} (h : a.quotient k b = some d) : d.isNaN = false := by
  cases a <;> cases b <;> simp only [Datum.quotient] at h <;> first | (cases h; done) | (cases h; rfl) | (split at h <;> first | (cases h; done) | (cases h; rfl) | (split at h <;> first | (cases h; done) | (cases h; rfl)))
theorem bits_ok {op : BinOp} {x y r : Nat} (h : floatBits op .f64 x y = some r) : nan r = false := by
  unfold floatBits at h
  split at h
  · obtain ⟨d, hd, rfl⟩ := Option.map_eq_some_iff.1 (show ((double.read x).sum (double.read y)).map double.write = some r from h)
    exact write_ok d (sum_ok hd)
  · obtain ⟨d, hd, rfl⟩ := Option.map_eq_some_iff.1 (show ((double.read x).sum (double.read y).opposite).map double.write = some r from h)
    exact write_ok d (sum_ok hd)
  · obtain ⟨d, hd, rfl⟩ := Option.map_eq_some_iff.1 (show ((double.read x).product (double.read y)).map double.write = some r from h)
    exact write_ok d (product_ok hd)
  · obtain ⟨d, hd, rfl⟩ := Option.map_eq_some_iff.1 (show ((double.read x).quotient _ (double.read y)).map double.write = some r from h)
    exact write_ok d (quotient_ok hd)
  · cases h
theorem fo_ok {op : BinOp} {a b : Option Nat} {r : Nat} (h : fo op a b = some r) : nan r = false := by
  cases a with
  | none => cases h
  | some x =>
    cases b with
    | none => cases h
    | some y => exact bits_ok (show floatBits op .f64 x y = some r from h)

/-- The order of what is known, or is no number. -/
def lessO : Option Nat → Option Nat → Bool
  | none, none => false
  | none, some _ => true
  | some _, none => false
  | some x, some y => lessB x y
structure Seg where
  l : Int
  s : Int
  a : Int
instance : Inhabited Seg := ⟨⟨0, 0, 0⟩⟩
def Seg.ben (x : Seg) : Option Nat := benO x.l x.s x.a
theorem ben_less {x y : Seg} {a b : Nat} (ha : FV x.ben a) (hb : FV y.ben b) : lessB a b = lessO x.ben y.ben := by
  cases hx : x.ben with
  | none =>
    rw [hx] at ha
    cases hy : y.ben with
    | none =>
      rw [hy] at hb
      unfold lessB
      rw [ha.1, hb.1]; rfl
    | some s =>
      rw [hy] at hb
      obtain rfl : b = s := hb
      unfold lessB
      rw [ha.1, fo_ok hy]; rfl
  | some r =>
    rw [hx] at ha
    obtain rfl : a = r := ha
    cases hy : y.ben with
    | none =>
      rw [hy] at hb
      unfold lessB
      rw [fo_ok hx, hb.1]; rfl
    | some s =>
      rw [hy] at hb
      obtain rfl : b = s := hb
      rfl
theorem ben_lt {x : Seg} {a : Nat} (h : FV x.ben a) : a < 18446744073709551616 := FV.lt h

/-- Which of the first k is picked. -/
def bst (S : List Seg) : Nat → Int
  | 0 => -1
  | k + 1 => if bst S k < 0 ∨ lessO (S.getD (bst S k).toNat default).ben (S.getD k default).ben = true then (k : Int) else bst S k
theorem bst_lt (S : List Seg) : ∀ k, bst S k < k ∧ -1 ≤ bst S k
  | 0 => ⟨by show (-1 : Int) < 0; decide, by show (-1 : Int) ≤ -1; decide⟩
  | k + 1 => by
    have := bst_lt S k
    unfold bst
    split
    · constructor <;> omega
    · constructor <;> omega
theorem bst_nat (S : List Seg) (k : Nat) (hk : 0 < k) : ∃ b : Nat, bst S k = b ∧ b < k := by
  cases k with
  | zero => omega
  | succ k =>
    have h := bst_lt S k
    unfold bst
    split
    · exact ⟨k, rfl, by omega⟩
    · exact ⟨(bst S k).toNat, by omega, by omega⟩

def segv (x : Seg) : Value := .agg #[.int .i64 x.l, .int .i64 x.s, .int .i64 x.a]
def segc (x : Seg) : List Value := [.int .i64 x.l, .int .i64 x.s, .int .i64 x.a]
def SegAt (w : World) (ao : Option Addr) (S : List Seg) : Prop := ∀ i (_ : i < S.length), ∃ g off, ao = some ⟨g, off, none⟩ ∧ g < w.heap.size ∧
  w.cell? ⟨g, off + i * 3, none⟩ = some (.int .i64 S[i].l) ∧ w.cell? ⟨g, off + i * 3 + 1, none⟩ = some (.int .i64 S[i].s) ∧ w.cell? ⟨g, off + i * 3 + 2, none⟩ = some (.int .i64 S[i].a)
theorem SegAt.below {w w' : World} {ao : Option Addr} {S : List Seg} (h : SegAt w ao S) (hb : Below w.heap.size w w') : SegAt w' ao S := by
  intro i hi
  obtain ⟨g, off, e1, e2, e3, e4, e5⟩ := h i hi
  have := hb.size
  exact ⟨g, off, e1, by omega, (hb.cell (p := ⟨g, _, none⟩) e2).trans e3, (hb.cell (p := ⟨g, _, none⟩) e2).trans e4, (hb.cell (p := ⟨g, _, none⟩) e2).trans e5⟩

set_option maxRecDepth 100000 in
set_option maxHeartbeats 1000000 in
theorem pick_any (S : List Seg) (ao : Option Addr) (cap : Nat) (w : World) (hI : SegAt w ao S) (hl : S.length ≤ 9223372036854775806) :
    Calls Try.prog 17 #[.slice ao S.length cap] w fun e w' => e = .returned (.int .i64 (bst S S.length)) ∧ Below w.heap.size w w' := by
  have HI := Lib.hid hI
  clear hI
  go_enter Try.func17, Try.ntmps17
  go_wp2
  go_loopw [3, 8] (fun b i wr => ∃ k : Nat, k ≤ S.length ∧ i = .int .i64 k ∧ b = .int .i64 (bst S k) ∧ Below w.heap.size w wr) (fun b i _ => S.length - (intOf i).toNat)
  case atStart => exact ⟨0, Nat.zero_le _, rfl, rfl, Below.refl _ _⟩
  case round =>
    obtain ⟨k, hk, rfl, rfl, hB⟩ := hrel
    have HB := Lib.hid hB
    clear hB
    by_cases hlt : k < S.length
    · obtain ⟨g, off, rfl, hg, c1, c2, c3⟩ := (HI.out.below HB.out) k hlt
      have HX : Hid (S[k] = S.getD k default) := Lib.hid (by simp [List.getD_eq_getElem?_getD, List.getElem?_eq_getElem hlt])
      generalize S[k] = x at *
      have HN : Hid (bst S (k + 1) = if bst S k < 0 ∨ lessO (S.getD (bst S k).toNat default).ben x.ben = true then (k : Int) else bst S k) := Lib.hid (by rw [HX.out]; rfl)
      go_wp2_with fail
      obtain ⟨W, hW⟩ : ∃ W, W = wr.alloc (.cells #[.int .i64 x.l, .int .i64 x.s, .int .i64 x.a] 28) := ⟨_, rfl⟩
      have hWB : Below wr.heap.size wr W := by rw [hW]; exact (Below.refl _ _).alloc (Nat.le_refl _) _
      have hBW : wr.heap.size < W.heap.size := by rw [hW]; simp
      have d1 : W.cell? ⟨wr.heap.size, 0, none⟩ = some (.int .i64 x.l) := by rw [hW]; simp [World.cell?_alloc_at]
      have d2 : W.cell? ⟨wr.heap.size, 1, none⟩ = some (.int .i64 x.s) := by rw [hW]; simp [World.cell?_alloc_at]
      have d3 : W.cell? ⟨wr.heap.size, 2, none⟩ = some (.int .i64 x.a) := by rw [hW]; simp [World.cell?_alloc_at]
      have HB2 := Lib.hid (HB.out.trans (hWB.mono HB.out.size))
      rw [← hW]
      clear hW hWB c1 c2 c3 hg
      generalize wr.heap.size = B at *
      by_cases hz : bst S k < 0
      · have hd : decide (bst S k < 0) = true := decide_eq_true hz
        go_quiet (fail)
        go_wp2
        refine ⟨⟨k + 1, by omega, by go_num, ?_, below_drewN HB2.out _⟩, by simp [intOf]; omega⟩
        rw [HN.out, if_pos (.inl hz)]
      · obtain ⟨b, hb, hbk⟩ := bst_nat S k (by
          cases k with
          | zero => exact absurd (show (-1 : Int) < 0 from by decide) hz
          | succ k => omega)
        obtain ⟨g2, off2, hg2, hgl, c1, c2, c3⟩ := (HI.out.below HB2.out) b (by omega)
        injection hg2 with hg2
        injection hg2 with hg2 hoff2
        subst hg2 hoff2
        have HY : Hid (S.getD b default = S[b]) := Lib.hid (by simp [List.getD_eq_getElem?_getD, List.getElem?_eq_getElem (show b < S.length by omega)])
        rw [hb] at HN ⊢
        rw [Int.toNat_natCast, HY.out] at HN
        clear HY
        generalize S[b] = y at *
        have hd : decide ((b : Int) < 0) = false := decide_eq_false (by omega)
        have hbl : (b : Int) < (S.length : Int) := by omega
        have HL : Hid (∀ a b, FV (benO y.l y.s y.a) a → FV (benO x.l x.s x.a) b → lessB a b = lessO y.ben x.ben) := Lib.hid fun a b ha hb => ben_less ha hb
        clear HX hb hz
        generalize lessO y.ben x.ben = t at *
        go_region_with (first
          | (go_at_call 12; refine (ben_any _ _ _ _).mono ?_; rintro e w' ⟨r, n, rfl, hr, rfl⟩)
          | (go_at_call 15; refine (less_any _ _ _ (FV.lt (by assumption)) (FV.lt (by assumption))).mono ?_; rintro e w' ⟨rfl, rfl⟩; rw [HL.out _ _ (by assumption) (by assumption)]))
        all_goals (cases t)
        all_goals go_wp2
        all_goals refine ⟨⟨k + 1, by omega, by go_num, by rw [HN.out]; simp <;> (intro h; omega), ?_⟩, by simp [intOf]; omega⟩
        all_goals (repeat first | exact HB2.out | apply below_al | apply below_drewN | apply Below.drew)
    · obtain rfl : k = S.length := by omega
      go_wp2
      go_ret
      exact ⟨rfl, HB.out⟩
end Go.Proofs.Ytdfpfdkpgokflaa
