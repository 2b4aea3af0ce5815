/- A map of the call's own, keys and elements numbers, as a function of the keys. -/
import Derived.Maps.OwnSet
import Derived.Maps.OwnIn
import Derived.Maps.RangeWalk
import Derived.Sort.MapsRangeIn
import Derived.Sort.KeysCollected
import Derived.Test.YtbkcbclloemajaaRd
namespace Go.Proofs.Ytbkcbclloemajaa
open Go.RowKit Go.Shelf

/-- Block b is a map of at most n entries; what lies under key x is f x. -/
def Mp (w : World) (k : TypeId) (qk : IntKind) (e : TypeId) (qe : IntKind) (b n : Nat) (f : Int → Option Int) : Prop :=
  ∃ D : DataW Unit, w.ownsMap Try.prog k (plainElem Try.prog e) b n D ∧ ∀ x, (Lit.int qk x).wf = true → Maps.has D (.int qk x) = (f x).isSome ∧ D.atKey (.int qk x) (.lit (.int qe 0)) = .lit (.int qe ((f x).getD 0))
section
variable {w : World} {k : TypeId} {qk : IntKind} {e : TypeId} {qe : IntKind} {b n : Nat} {f : Int → Option Int}
theorem Mp.made (w : World) : Mp (w.alloc (.map #[] 0)) k qk e qe w.heap.size 0 (fun _ => none) :=
  ⟨_, World.ownsMap_made w Try.prog k _, fun _ _ => ⟨rfl, rfl⟩⟩
theorem Mp.lt (h : Mp w k qk e qe b n f) : b < w.heap.size := by obtain ⟨D, h1, _⟩ := h; exact h1.lt
theorem Mp.kept {w' : World} (h : Mp w k qk e qe b n f) (hb : w'.heap[b]? = w.heap[b]?) : Mp w' k qk e qe b n f := by
  obtain ⟨D, ⟨es, clock, h1, h2⟩, h3⟩ := h
  exact ⟨D, ⟨es, clock, hb.trans h1, h2⟩, h3⟩
theorem Mp.later {w' : World} (h : Mp w k qk e qe b n f) (hb : Below w.heap.size w w') : Mp w' k qk e qe b n f := h.kept (hb.block b h.lt)
theorem Mp.isMap (h : Mp w k qk e qe b n f) : ∃ es c, w.heap[b]? = some (.map es c) := by
  obtain ⟨D, ⟨es, clock, h1, _⟩, _⟩ := h
  exact ⟨es, clock, h1⟩
theorem Mp.look {t : TypeId} (h : Mp w k qk e qe b n f) (hk : Try.prog.underlying k = some (.int qk)) (ht : Try.prog.underlying t = some (.map k e)) (he : Try.prog.underlying e = some (.int qe)) (hz : (zeroValue e).run Try.prog w = .ok (.int qe 0) w) {x : Int} (hx : (Lit.int qk x).wf = true) :
    (Instr.lookup t (.map (some b)) (.int qk x) false).run Try.prog w = .ok (.int qe ((f x).getD 0)) w := by
  obtain ⟨D, h1, h2⟩ := h
  obtain ⟨c, hr, ha, _⟩ := h1.lookup_int (Maps.int_keyed hk) ht he hz (Maps.keyOf_int_mk hk hx)
  rw [(h2 x hx).2] at ha
  cases ha
  exact hr
theorem Mp.wf (h : Mp w k qk e qe b n f) (hk : Try.prog.underlying k = some (.int qk)) {t : TypeId} (ht : Try.prog.underlying t = some (.map k e)) (he : Try.prog.underlying e = some (.int qe)) (hz : (zeroValue e).run Try.prog w = .ok (.int qe 0) w) {x : Int} (hx : (Lit.int qk x).wf = true) : (Lit.int qe ((f x).getD 0)).wf = true := by
  obtain ⟨D, h1, h2⟩ := h
  obtain ⟨c, hr, ha, hw⟩ := h1.lookup_int (Maps.int_keyed hk) ht he hz (Maps.keyOf_int_mk hk hx)
  rw [(h2 x hx).2] at ha
  cases ha
  exact hw
theorem Mp.lookOk {t : TypeId} (h : Mp w k qk e qe b n f) (hk : Try.prog.underlying k = some (.int qk)) (ht : Try.prog.underlying t = some (.map k e)) (he : Try.prog.underlying e = some (.int qe)) (hz : (zeroValue e).run Try.prog w = .ok (.int qe 0) w) {x : Int} (hx : (Lit.int qk x).wf = true) :
    (Instr.lookup t (.map (some b)) (.int qk x) true).run Try.prog w = .ok (.tuple #[.int qe ((f x).getD 0), .bool (f x).isSome]) w := by
  obtain ⟨D, h1, h2⟩ := h
  have hw0 : (Lit.int qe 0).wf = true := by cases qe <;> decide
  obtain ⟨v, ps, hr, hv⟩ := h1.look_ok (Maps.int_keyed hk) ht hz (plainElem_int he hw0) (Maps.keyOf_int_mk hk hx)
  rw [(h2 x hx).1] at hr
  rw [(h2 x hx).2] at hv
  obtain ⟨c, rfl, hc, _⟩ := plainElem_int_inv he hv
  simp only [Prod.mk.injEq] at hc
  cases hc.1
  exact hr
/-- One key more, or another number under it. -/
def upd (f : Int → Option Int) (x v : Int) : Int → Option Int := fun y => if y = x then some v else f y
theorem Mp.store {t : TypeId} (h : Mp w k qk e qe b n f) (hk : Try.prog.underlying k = some (.int qk)) (ht : Try.prog.underlying t = some (.map k e)) (he : Try.prog.underlying e = some (.int qe)) (hn : n < maxLen) {x v : Int} (hx : (Lit.int qk x).wf = true) (hv : (Lit.int qe v).wf = true) :
    ∃ w', (Instr.mapUpdate t (.map (some b)) (.int qk x) (.int qe v)).run Try.prog w = .ok () w' ∧ Mp w' k qk e qe b (n + 1) (upd f x v) ∧ w.grownBy w' (some b) ∧ w'.heap.size = w.heap.size := by
  obtain ⟨D, h1, h2⟩ := h
  have hkey := Maps.keyOf_int_mk (P := Try.prog) hk hx
  obtain ⟨w', hr, h3, h4⟩ := h1.store (Maps.int_keyed hk) ht hn hkey (plainElem_int he hv)
  have hsz : w'.heap.size = w.heap.size := by
    obtain ⟨_, _, _, _, _, rfl⟩ := h4
    simp [Go.ChangeMaps.setBlock]
  refine ⟨w', hr, ⟨_, h3, fun y hy => ?_⟩, h4.grown, hsz⟩
  have hkl : WideAt.IsKeyLit (.int qk x) := ⟨⟩
  by_cases hyx : y = x
  · subst hyx
    simp [upd, Maps.has_put_same h1.isMap hkl, Maps.atKey_put_same h1.isMap hkl]
  · have hne : (Lit.int qk y) ≠ (Lit.int qk x) := fun e => hyx (by cases e; rfl)
    rw [Maps.has_put_other hne, Maps.atKey_put_other hne]
    simp [upd, hyx, h2 y hy]
end
end Go.Proofs.Ytbkcbclloemajaa
