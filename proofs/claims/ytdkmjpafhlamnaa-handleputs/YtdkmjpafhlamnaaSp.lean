/-
  A new writer; a writer beside new blocks and a reader. No condition.
-/
import Derived.Test.YtdkmjpafhlamnaaRdOk
import Derived.Test.YtdkmjpafhlamnaaPut
namespace Go.Proofs.Ytdkmjpafhlamnaa
open Go.RowKit
theorem Wr.new (w : World) : Wr (w.alloc (.cells #[.slice none 0 0] 37)) w.heap.size (.slice none 0 0) [] :=
  ⟨heap_alloc_new w _, World.ownsRow_nil _ _ _ _⟩
theorem Wr.below {w w' : World} {p : Nat} {v : Value} {l : List UInt8} (h : Wr w p v l) (hb : Below w.heap.size w w') : Wr w' p v l := by
  refine ⟨(hb.block p h.lt).trans h.1, h.2.1, ?_⟩
  rcases h.2.2 with e | ⟨g, cap, cur, e1, e2, hg, r⟩
  · exact .inl e
  · exact .inr ⟨g, cap, cur, e1, e2, (hb.block g (Array.getElem?_eq_some_iff.1 hg).1).trans hg, r⟩
theorem Wr.onlyR {w w' : World} {p r : Nat} {v : Value} {l m : List UInt8} {e : Int} (h : Wr w p v l) (hr : Rd w r m e) (ho : Only r w w') : Wr w' p v l := by
  obtain ⟨u, g1, _⟩ := hr
  have hpr : p ≠ r := by intro e; subst e; rw [h.1] at g1; simp at g1
  refine ⟨(ho.block p hpr).trans h.1, h.2.1, ?_⟩
  rcases h.2.2 with e | ⟨g, cap, cur, e1, e2, hg, rr⟩
  · exact .inl e
  · refine .inr ⟨g, cap, cur, e1, e2, (ho.block g ?_).trans hg, rr⟩
    intro e; subst e; rw [g1] at hg; simp at hg

end Go.Proofs.Ytdkmjpafhlamnaa
