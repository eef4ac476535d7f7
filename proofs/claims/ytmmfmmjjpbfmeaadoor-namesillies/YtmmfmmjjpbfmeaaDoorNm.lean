/-
  The names of a path, plain: the pieces between slashes; which text may be a name; what Split answers. No condition.
-/
import Derived.Test.YtmmfmmjjpbfmeaaDoorProg
import Derived.Lib.SplitLaws
import Derived.Lib.IndexAny
import Derived.Lib.IndexBytes
import Derived.Lib.IndexLaws
namespace Go.Proofs.YtmmfmmjjpbfmeaaDoor
open Go

def bs (l : List UInt8) : ByteArray := ⟨l.toArray⟩
theorem bs_data (s : ByteArray) : bs s.data.toList = s := by simp [bs]
theorem data_bs (l : List UInt8) : (bs l).data.toList = l := by simp [bs]
theorem size_bs (l : List UInt8) : (bs l).size = l.length := by simp [bs, ByteArray.size]
theorem bs_append (a b : List UInt8) : bs (a ++ b) = bs a ++ bs b := by
  apply ByteArray.ext; simp [bs]
theorem bs_inj {a b : List UInt8} (h : bs a = bs b) : a = b := by
  have := congrArg (fun s : ByteArray => s.data.toList) h
  simpa [bs] using this
theorem map_data_bs (L : List ByteArray) : (L.map (·.data.toList)).map bs = L := by
  induction L with
  | nil => rfl
  | cons a L ih => rw [List.map_cons, List.map_cons, ih, bs_data]

/-- The pieces between slashes; acc: what is gone through of the first. -/
def pcs (acc : List UInt8) : List UInt8 → List (List UInt8)
  | [] => [acc]
  | c :: r => if c = 47 then acc :: pcs [] r else pcs (acc ++ [c]) r
theorem pcs_miss : ∀ (a acc : List UInt8), 47 ∉ a → pcs acc a = [acc ++ a]
  | [], acc, _ => by simp [pcs]
  | c :: r, acc, h => by
    have hc : c ≠ 47 := fun e => h (by simp [e])
    rw [pcs, if_neg hc, pcs_miss r _ (fun hr => h (List.mem_cons_of_mem _ hr))]
    simp
theorem pcs_hit : ∀ (a acc b : List UInt8), 47 ∉ a → pcs acc (a ++ 47 :: b) = (acc ++ a) :: pcs [] b
  | [], acc, b, _ => by simp [pcs]
  | c :: r, acc, b, h => by
    have hc : c ≠ 47 := fun e => h (by simp [e])
    rw [List.cons_append, pcs, if_neg hc, pcs_hit r _ b (fun hr => h (List.mem_cons_of_mem _ hr))]
    simp
theorem cut_ex : ∀ l : List UInt8, 47 ∉ l ∨ ∃ a b, l = a ++ 47 :: b ∧ 47 ∉ a
  | [] => .inl (by simp)
  | c :: r => by
    by_cases hc : c = 47
    · subst hc; exact .inr ⟨[], r, rfl, by simp⟩
    · rcases cut_ex r with h | ⟨a, b, rfl, h⟩
      · exact .inl (by simp [h, Ne.symm hc])
      · exact .inr ⟨c :: a, b, rfl, by simp [h, Ne.symm hc]⟩
theorem index_slash (a b : List UInt8) (h : 47 ∉ a) : Lib.index (a ++ 47 :: b) [47] = a.length := by
  rw [Lib.index_one]
  induction a with
  | nil => simp [Lib.indexByte]
  | cons c r ih =>
    have hc : (c == 47) = false := by simpa using fun e => h (by simp [e])
    have hr := ih (fun hr => h (List.mem_cons_of_mem _ hr))
    rw [List.cons_append, Lib.indexByte, hc, hr]
    rw [if_neg (by simp), if_neg (by simp)]
    simp
theorem split_pcs : ∀ (n : Nat) (l : List UInt8), l.length ≤ n → Lib.splitK [47] 0 (l.count 47) l = pcs [] l := by
  intro n
  induction n with
  | zero =>
    intro l hl
    have : l = [] := List.eq_nil_of_length_eq_zero (by omega)
    subst this
    rfl
  | succ n ih =>
    intro l hl
    rcases cut_ex l with h | ⟨a, b, rfl, h⟩
    · rw [List.count_eq_zero.2 h, pcs_miss l [] h]; rfl
    · have hcnt : (a ++ 47 :: b).count 47 = b.count 47 + 1 := by
        rw [List.count_append, List.count_cons_self, List.count_eq_zero.2 h]; omega
      rw [hcnt, pcs_hit a [] b h, Lib.splitK, index_slash a b h, if_neg (by simp)]
      have hb := ih b (by simp at hl; omega)
      rw [← hb]
      simp
theorem pcs_no : ∀ (l acc : List UInt8), 47 ∉ acc → ∀ x ∈ pcs acc l, 47 ∉ x
  | [], acc, h, x, hx => by simp [pcs] at hx; subst hx; exact h
  | c :: r, acc, h, x, hx => by
    unfold pcs at hx
    split at hx
    · rcases List.mem_cons.1 hx with rfl | hx
      · exact h
      · exact pcs_no r [] (by simp) x hx
    · rename_i hc
      exact pcs_no r (acc ++ [c]) (by simp [h, Ne.symm hc]) x hx
theorem pcs_flat : ∀ (l acc : List UInt8), (pcs acc l).flatMap (fun x => 47 :: x) = 47 :: (acc ++ l)
  | [], acc => by simp [pcs]
  | c :: r, acc => by
    unfold pcs
    split
    · rename_i hc
      subst hc
      rw [List.flatMap_cons, pcs_flat r []]
      simp
    · rw [pcs_flat r (acc ++ [c])]
      simp
theorem pcs_ne : ∀ (l acc : List UInt8), pcs acc l ≠ []
  | [], acc => by simp [pcs]
  | c :: r, acc => by
    unfold pcs
    split
    · simp
    · exact pcs_ne r _
theorem pcs_len : ∀ (l acc : List UInt8), (pcs acc l).length = l.count 47 + 1
  | [], acc => rfl
  | c :: r, acc => by
    unfold pcs
    split
    · rename_i hc
      subst hc
      rw [List.length_cons, pcs_len r [], List.count_cons_self]
    · rename_i hc
      rw [pcs_len r, List.count_cons_of_ne hc]
theorem splitB_pcs (t : ByteArray) : Lib.splitB ⟨#[47]⟩ 0 (Lib.countB t ⟨#[47]⟩) t = (pcs [] t.data.toList).map bs := by
  rw [← map_data_bs (Lib.splitB _ _ _ _), Lib.splitB_data]
  congr 1
  have e : Lib.countB t ⟨#[47]⟩ = t.data.toList.count 47 := Lib.count_one 47 t.data.toList
  rw [e]
  exact split_pcs _ _ (Nat.le_refl _)

/-- Is there a slash or a nought among them? -/
def bad (l : List UInt8) : Bool := l.any fun b => b == 47 || b == 0
theorem bad_any (l : List UInt8) : decide (0 ≤ Lib.indexAny l [47, 0]) = bad l := by
  induction l with
  | nil => rfl
  | cons c l ih =>
    have hge := Lib.indexAny_ge [47, 0] l
    unfold bad at ih ⊢
    rw [List.any_cons, ← ih, Lib.indexAny]
    by_cases h : ([47, 0] : List UInt8).contains c = true
    · have h' : (c == 47 || c == 0) = true := by simpa using h
      rw [if_pos h, h']; rfl
    · have h' : (c == 47 || c == 0) = false := by simpa using h
      rw [if_neg h, h', Bool.false_or]
      split
      · rename_i h2
        have := beq_iff_eq.1 h2
        rw [this]
      · rename_i h2
        have h3 : Lib.indexAny l [47, 0] ≠ -1 := fun e => h2 (by simp [e])
        rw [decide_eq_true (by omega), decide_eq_true (by omega)]
/-- May it be a name? -/
def ck (s : ByteArray) : Int := if 64 < s.size then 63 else if s.toList = [] ∨ s.toList = [46] ∨ s.toList = [46, 46] ∨ bad s.data.toList = true then 22 else 0
/-- The first status of names that isn't 0. -/
def stat : List ByteArray → Int
  | [] => 0
  | s :: r => if ck s = 0 then stat r else ck s
def nms (p : ByteArray) : List ByteArray := (pcs [] (p.data.toList.drop 1)).map bs
/-- What Split answers. -/
def spO (p : ByteArray) : List ByteArray × Int :=
  if 256 < p.size ∨ Lib.hasPrefix p.data.toList [47] = false then ([], 22)
  else if p = ⟨#[47]⟩ then ([], 0)
  else if 16 < (nms p).length then ([], 22)
  else if stat (nms p) = 0 then (nms p, 0) else ([], stat (nms p))
end Go.Proofs.YtmmfmmjjpbfmeaaDoor
