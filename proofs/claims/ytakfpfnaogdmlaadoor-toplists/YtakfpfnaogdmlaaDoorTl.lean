/-
  TopLists, plain: what a list of numbers and texts is laid out as by the form '?(u)*(qo300)'. Its conditions: numbers of 64 bits, texts of at most 300 bytes, at most 100 of them.
-/
import Derived.Test.YtakfpfnaogdmlaaDoorEn
import Derived.Test.YtakfpfnaogdmlaaDoorRl
namespace Go.Proofs.YtakfpfnaogdmlaaDoor
open Go.RowKit Sch
def tlT : List UInt8 := [63, 40, 117, 41, 42, 40, 113, 111, 51, 48, 48, 41]
def tlI : Row := .one 113 (.num 111 300 .nil)
def tlR : Row := .opt 63 (.one 117 .nil) (.opt 42 tlI .nil)
theorem form_tl : form num5 tlT = some tlR := by kernel_rfl
def itB (x : Int × ByteArray) : List UInt8 := Y.numBytes x.1 8 ++ Y.opaqueOf x.2
def itsB : List (Int × ByteArray) → List UInt8
  | [] => []
  | x :: L => Y.numBytes 1 4 ++ itB x ++ itsB L
def TlOk (x : Int × ByteArray) : Prop := (-9223372036854775808 ≤ x.1 ∧ x.1 ≤ 9223372036854775807) ∧ x.2.size ≤ 300
theorem itsB_snoc : ∀ (L : List (Int × ByteArray)) (x : Int × ByteArray), itsB (L ++ [x]) = itsB L ++ Y.numBytes 1 4 ++ itB x
  | [], x => by simp [itsB]
  | y :: L, x => by simp only [List.cons_append, itsB, itsB_snoc L x, List.append_assoc]
theorem itsB_length : ∀ (L : List (Int × ByteArray)), (∀ x ∈ L, TlOk x) → (itsB L).length ≤ 320 * L.length
  | [], _ => by simp [itsB]
  | x :: L, h => by
    have h1 := itsB_length L fun y hy => h y (List.mem_cons_of_mem _ hy)
    have h2 := (h x List.mem_cons_self).2
    have h3 := Y.opaqueOf_length x.2
    have h4 := Y.pad_lt x.2.size
    have h5 : (Y.numBytes x.1 8).length = 8 := by simp [Y.numBytes, Y.numTo_length]
    have h6 : (Y.numBytes 1 4).length = 4 := by simp [Y.numBytes, Y.numTo_length]
    simp only [itsB, itB, List.length_append, List.length_cons]
    omega
theorem rep_tl : ∀ (L : List (Int × ByteArray)), (∀ x ∈ L, TlOk x) → repL (ly none tlI) L.length (L.map (·.1)) (L.map (·.2)) = .ok (itsB L ++ Y.numBytes 0 4, [], [])
  | [], _ => rfl
  | x :: L, h => by
    have h0 := h x List.mem_cons_self
    have h1 := rep_tl L fun y hy => h y (List.mem_cons_of_mem _ hy)
    have e : ly none tlI (x.1 :: L.map (·.1)) (x.2 :: L.map (·.2)) = .ok (itB x, L.map (·.1), L.map (·.2)) := by
      unfold tlI
      rw [ly]
      have e1 : oneL 113 (x.1 :: L.map (·.1)) (x.2 :: L.map (·.2)) = .ok (Y.numBytes x.1 8, L.map (·.1), x.2 :: L.map (·.2)) := by
        unfold oneL
        rw [if_neg (by decide), if_pos rfl]
        unfold numL; dsimp only
        rw [if_pos h0.1]
      rw [e1]
      simp only [andL]
      rw [ly]
      have e2 : txtL 111 300 (L.map (·.1)) (x.2 :: L.map (·.2)) = .ok (Y.opaqueOf x.2, L.map (·.1), L.map (·.2)) := by
        unfold txtL; dsimp only
        rw [if_pos rfl, if_pos h0.2]
      rw [e2]
      simp [andL, ly, preL, itB]
    simp only [List.length_cons, List.map_cons, repL]
    rw [e]
    simp only [andL]
    rw [h1]
    simp [preL, itsB]
def tlN (flag : Bool) (L : List (Int × ByteArray)) : List Int := (if flag then [1, 7] else [0]) ++ ((L.length : Int) :: L.map (·.1))
def tlB (flag : Bool) (L : List (Int × ByteArray)) : List UInt8 := (Y.numBytes (b2i flag) 4 ++ if flag then Y.numBytes 7 4 else []) ++ (itsB L ++ Y.numBytes 0 4)
theorem enc_tl (flag : Bool) (L : List (Int × ByteArray)) (h : ∀ x ∈ L, TlOk x) (hL : L.length ≤ 100) : encO tlT (tlN flag L) (L.map (·.2)) = .ok (tlB flag L) := by
  have h1 := itsB_length L h
  have h2 : (Y.numBytes 7 4).length = 4 := by simp [Y.numBytes, Y.numTo_length]
  have h3 : (Y.numBytes 0 4).length = 4 := by simp [Y.numBytes, Y.numTo_length]
  have h4 : (Y.numBytes (b2i flag) 4).length = 4 := by simp [Y.numBytes, Y.numTo_length]
  have hlen : (tlB flag L).length ≤ 65536 := by
    unfold tlB
    cases flag <;> simp only [List.length_append, Bool.false_eq_true, if_false, if_true, List.length_nil, h2, h3, h4] <;> omega
  have e1 : timesL (ly none tlI) ((L.length : Int) :: L.map (·.1)) (L.map (·.2)) = .ok (itsB L ++ Y.numBytes 0 4, [], []) := by
    unfold timesL; dsimp only
    rw [if_pos (by omega), Int.toNat_natCast]
    exact rep_tl L h
  have e2 : ly none (.opt 42 tlI .nil) ((L.length : Int) :: L.map (·.1)) (L.map (·.2)) = .ok (itsB L ++ Y.numBytes 0 4, [], []) := by
    rw [ly, if_neg (by decide), e1]
    simp [andL, ly, preL]
  have e3 : maybeL (ly none (.one 117 .nil)) (tlN flag L) (L.map (·.2)) = .ok (Y.numBytes (b2i flag) 4 ++ (if flag then Y.numBytes 7 4 else []), (L.length : Int) :: L.map (·.1), L.map (·.2)) := by
    cases flag
    · rfl
    · rfl
  have e4 : ly none tlR (tlN flag L) (L.map (·.2)) = .ok (tlB flag L, [], []) := by
    unfold tlR
    rw [ly, if_pos rfl, e3]
    simp only [andL]
    rw [e2]
    rfl
  unfold encO
  rw [form_tl]
  dsimp only
  unfold laidO
  rw [e4]
  dsimp only
  rw [if_pos ⟨rfl, rfl⟩]
  dsimp only
  rw [if_neg (by omega)]
end Go.Proofs.YtakfpfnaogdmlaaDoor
