/- The keys of a map, sorted (slices.Sorted of maps.Keys). -/
import Derived.Test.YtbkcbclloemajaaKeys
namespace Go.Proofs.Ytbkcbclloemajaa
open Go.RowKit Go.Shelf

/-- The slice reads as these numbers. -/
def RdI (w : World) (ao : Option Addr) (ys : List Int) : Prop := ∀ i (h : i < ys.length), ∃ b off, ao = some ⟨b, off, none⟩ ∧ w.cell? ⟨b, off + i, none⟩ = some (.int .i32 ys[i])
theorem RdI.later {w w' : World} {ao : Option Addr} {ys : List Int} (h : RdI w ao ys) (hb : Below w.heap.size w w') : RdI w' ao ys := fun i hi =>
  let ⟨b, off, e, h1⟩ := h i hi
  ⟨b, off, e, cell_later hb h1⟩
theorem OwnI.rd {w : World} {B : Nat} {v : Value} {ys : List Int} (h : OwnI w B v ys) : ∃ ao cap, v = .slice ao ys.length cap ∧ (∀ g off, ao = some ⟨g, off, none⟩ → B ≤ g ∧ (∃ cur, w.heap[g]? = some (.cells cur 21 (0, 0))) ∧ off = 0) ∧ RdI w ao ys := by
  obtain ⟨_, h | ⟨g, cap, cur, rfl, hB, hg, hle, _, hsz, hxs⟩⟩ := h
  · obtain ⟨rfl, hn⟩ := h
    have : ys = [] := List.eq_nil_of_length_eq_zero hn
    subst this
    exact ⟨none, 0, rfl, (fun g off e => by cases e), (fun i hi => by simp at hi)⟩
  · refine ⟨_, cap, rfl, (fun g' off e => by cases e; exact ⟨hB, ⟨cur, hg⟩, rfl⟩), fun i hi => ⟨g, 0, rfl, ?_⟩⟩
    have h1 : (cur.toList.take (ys.length * 1))[i]? = (ys.map (Value.int .i32))[i]? := by rw [hxs]
    rw [List.getElem?_take, if_pos (by omega)] at h1
    simp [World.cell?, hg]
    simpa [hi] using h1

theorem has_wf {w : World} {b n : Nat} {D : DataW Unit} (h : w.ownsMap Try.prog 21 (plainElem Try.prog 60) b n D) {x : Int} (hx : Maps.has D (.int .i32 x) = true) : (Lit.int .i32 x).wf = true := by
  obtain ⟨es, rfl, hk⟩ := h.keysOf
  rw [Maps.has_eq, List.any_eq_true] at hx
  obtain ⟨p, hp, hs⟩ := hx
  obtain ⟨v, hv⟩ := hk p hp
  obtain ⟨y, _, h2, h3⟩ := Maps.keyOf_int_inv Try.underlying21 hv
  rw [h2] at hs
  simp [Lit.sameKey] at hs
  subst hs
  exact h3

set_option maxHeartbeats 1000000 in
theorem sorted32_any (Bm b nn : Nat) (f : Int → Option Int) (hl : nn ≤ 1000000) (w : World) (hBm : Bm < w.heap.size) (hm : w.cell? ⟨Bm, 0, none⟩ = some (.map (some b))) (hown : Mp w 21 .i32 60 .u64 b nn f) :
    Calls Try.prog 50 #[.func (.func 57) #[] #[.pointer (some ⟨Bm, 0, none⟩)]] w fun e W' => ∃ (u : Value) (ys : List Int), e = .returned u ∧ OwnI W' w.heap.size u ys ∧ ys.Pairwise (· < ·) ∧ (∀ x, x ∈ ys ↔ ((Lit.int .i32 x).wf = true ∧ (f x).isSome = true)) ∧ ys.length ≤ 1000000 ∧ Below w.heap.size w W' := by
  obtain ⟨D, hD, hf⟩ := hown
  have hsz := hD.size_le
  have h1 : Calls Try.prog 55 #[.func (.func 57) #[] #[.pointer (some ⟨Bm, 0, none⟩)]] w fun e W' => ∃ (u : Value) (ys : List Int), e = .returned u ∧ OwnI W' w.heap.size u ys ∧ ys.Nodup ∧ (∀ x, x ∈ ys ↔ Maps.has D (.int .i32 x) = true) ∧ Below w.heap.size w W' := by
    have h := appendSeq32_any Bm b nn D (by omega) w hBm hm hD
    go_enter Try.func55, Try.ntmps55
    go_wp2_with (go_at_call 61; refine h.mono ?_; rintro e W' ⟨u, ys, rfl, ho, hb⟩)
    go_ret
    exact ⟨u, ys, rfl, ho, hb⟩
  have hlen : ∀ ys : List Int, ys.Nodup → (∀ x, x ∈ ys ↔ Maps.has D (.int .i32 x) = true) → ys.length ≤ 1000000 := by
    intro ys g1 g2
    obtain ⟨es, rfl, hk⟩ := hD.keysOf
    have : ys.length ≤ (es.map fun p => p.1).length := by
      have h3 : (ys.map (Lit.int .i32)).length ≤ (es.map fun p => p.1).length := by
        refine List.Nodup.length_le_of_subset (List.Pairwise.map _ (fun a b hne e => hne (by simpa using e)) g1) ?_
        intro z hz
        obtain ⟨x, hx, rfl⟩ := List.mem_map.1 hz
        have := (g2 x).1 hx
        rw [Maps.has_eq, List.any_eq_true] at this
        obtain ⟨p, hp, hs⟩ := this
        obtain ⟨v, hv⟩ := hk p hp
        obtain ⟨y, _, h2, h3⟩ := Maps.keyOf_int_inv Try.underlying21 hv
        rw [h2] at hs
        simp [Lit.sameKey] at hs
        subst hs
        exact List.mem_map.2 ⟨p, hp, h2⟩
      simpa using h3
    rw [List.length_map] at this
    rw [Maps.size_eq] at hsz
    omega
  go_enter Try.func50, Try.ntmps50
  go_wp2_with fail
  refine h1.mono ?_
  rintro e w1 ⟨u, ys, rfl, ho, hnd, hmem, hb⟩
  have hl2 := hlen ys hnd hmem
  have hs := sort_any u ys hl2 w.heap.size w1 ho hb.size
  clear h1 hlen
  go_wp2_with fail
  refine hs.mono ?_
  rintro e w2 ⟨rfl, zs, ho2, hp, hsd, hb2⟩
  clear hs
  go_wp2
  go_ret
  refine ⟨u, zs, rfl, ho2, ?_, fun x => ?_, by rw [hp.length_eq]; exact hl2, hb.trans hb2⟩
  · have hz : zs.Nodup := hp.nodup_iff.2 hnd
    rw [List.pairwise_iff_getElem] at hsd ⊢
    intro i j hi hj hij
    have h1 := hsd i j hi hj hij
    have h2 := (List.pairwise_iff_getElem.1 hz) i j hi hj hij
    omega
  · rw [hp.mem_iff, hmem x]
    constructor
    · intro h
      have hw := has_wf hD h
      exact ⟨hw, by rw [← (hf x hw).1]; exact h⟩
    · rintro ⟨hw, h⟩
      rw [(hf x hw).1]
      exact h
end Go.Proofs.Ytbkcbclloemajaa
