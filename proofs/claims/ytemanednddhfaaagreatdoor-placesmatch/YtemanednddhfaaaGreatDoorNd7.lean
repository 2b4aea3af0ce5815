/- A node that came in reads as a tree. -/
import Derived.Test.YtemanednddhfaaaGreatDoorNml
import Derived.Test.YtemanednddhfaaaGreatDoorIss
import Derived.ProofKit
import Derived.OpenShut
import Derived.ChangeAt
import Derived.Deep.SlicePairs
import Derived.Deep.MidRow
namespace Go.Proofs.YtemanednddhfaaaGreatDoor
open Go.ChangeShapes Go.WideShapes Go.ChangeAt Go.RowKit
open E (T)
theorem preK_self : ∀ ks : List T, E.preK ks ks = ks.flatMap fun x => E.pre x x
 | [] => by rw [E.preK_nil]; rfl
 | x :: xs => by rw [E.preK_cons, preK_self xs, List.flatMap_cons]
theorem pre_self (t : T) : E.pre t t = (t, t) :: t.kids.flatMap fun x => E.pre x x := by rw [E.pre_eq, preK_self]
def InT (t : T) : Prop := ∀ p ∈ E.pre t t, E.NodeB p.1
theorem inT_mk {t : T} (h : E.NodeB t) (hk : ∀ x ∈ t.kids, InT x) : InT t := by
 intro p hp
 rw [pre_self, List.mem_cons] at hp
 rcases hp with rfl | hp
 · exact h
 · obtain ⟨x, hx, hp⟩ := List.mem_flatMap.1 hp
   exact hk x hx p hp
theorem kr_of {w : World} {b off : Nat} : ∀ (ts : List T) (j : Nat), (∀ i (h : i < ts.length), ∃ v, TR w (fun _ => True) ts[i] v ∧ Cells5 w b (off + (j + i) * 5) v) → KR w (fun _ => True) ts (some ⟨b, off, none⟩) j
 | [], _, _ => by rw [KR]; trivial
 | t :: ts, j, h => by
   rw [KR]
   obtain ⟨v, h1, h2⟩ := h 0 (by simp)
   refine ⟨⟨b, off, v, rfl, trivial, h1, by simpa using h2⟩, kr_of ts (j + 1) fun i hi => ?_⟩
   obtain ⟨v, h1, h2⟩ := h (i + 1) (by simpa using hi)
   exact ⟨v, by simpa using h1, by rw [show j + 1 + i = j + (i + 1) by omega]; exact h2⟩
theorem fields69 : ∃ f0 f1 : Field, Tryz.prog.underlying 102 = some (.struct #[f0, f1]) ∧ f0.offset = 0 ∧ f1.offset = 1 ∧ f0.type = 21 ∧ f1.type = 21 := ⟨_, _, Tryz.underlying102, rfl, rfl, rfl, rfl⟩
theorem rdr_of_trod {H : Type} {enc : TypeId × Value → H} {W : World} {base : Nat} {sp : Nat → Bool} {held : Bool} {fuel : Nat} {cs : List Value} {x : DataW H × List MemPlace}
   (hf : DataW.trod enc Tryz.prog W base sp held fuel 23 cs = some x) : ∃ a0 cap, ∃ xs : List U.S.R, cs = [.slice a0 xs.length cap] ∧ xs.length ≤ cap ∧ xs.length ≤ 9223372036854775807 ∧ (U.RdR W a0 xs ∧ ∀ r ∈ xs, -2147483648 ≤ r.1 ∧ r.1 ≤ 2147483647 ∧ -2147483648 ≤ r.2 ∧ r.2 ≤ 2147483647) := by
 obtain ⟨f0, f1, hu, o0, o1, t0, t1⟩ := fields69
 rcases Go.Deep.open_slice_pairs Tryz.underlying23 hu (by kernel_rfl) o0 o1 (by rw [t0]; kernel_rfl) (by rw [t1]; kernel_rfl) hf with ⟨rfl, _⟩ | ⟨a, len, cap, m, n, V0, V1, D0, D1, P0, P1, rfl, _, hl, hm, hmm, _, hcell⟩
 · exact ⟨none, 0, [], rfl, Nat.zero_le _, Nat.zero_le _, U.rdr_nil _ _, fun r hr => by cases hr⟩
 · have hlm : len ≤ m := by rw [hmm]; split <;> omega
   have hint : ∀ i, i < m → ∃ q : Int × Int, W.cell? (a.add (i * 2)) = some (.int .i32 q.1) ∧ W.cell? (a.add (i * 2 + 1)) = some (.int .i32 q.2) ∧ (-2147483648 ≤ q.1 ∧ q.1 ≤ 2147483647 ∧ -2147483648 ≤ q.2 ∧ q.2 ≤ 2147483647) := by
     intro i hi
     obtain ⟨h0, h1, e0, e1⟩ := hcell i hi
     rw [t0] at e0
     rw [t1] at e1
     obtain ⟨x, ex, _, wx⟩ := DataW.trod_int Tryz.underlying21 e0
     obtain ⟨y, ey, _, wy⟩ := DataW.trod_int Tryz.underlying21 e1
     simp at ex ey
     rw [ex] at h0
     rw [ey] at h1
     have bx := bounds_i32 wx
     have byy := bounds_i32 wy
     exact ⟨(x, y), h0, h1, bx.1, bx.2, byy.1, byy.2⟩
   obtain ⟨f, hf⟩ := Go.Deep.choose_lt hint
   refine ⟨some a, cap, (List.range len).map f, by simp, by simp; omega, by simp; unfold maxLen at hm; omega, ?_, ?_⟩
   · intro i hi
     have hi' : i < len := by simpa using hi
     have hs := hf i (by omega)
     have hspot : a.spot = none := by
       have := World.cell?_spot (hf 0 (by omega)).1
       simpa [Addr.add] using this
     obtain ⟨b, off, spot⟩ := a
     simp only at hspot
     subst hspot
     refine ⟨b, off, rfl, ?_, ?_⟩
     · rw [← Addr.add_mid]
       simp only [List.getElem_map, List.getElem_range]
       exact hs.1
     · rw [Nat.add_assoc, ← Addr.add_mid]
       simp only [List.getElem_map, List.getElem_range]
       exact hs.2.1
   · intro r hr
     obtain ⟨i, hi, rfl⟩ := List.mem_map.1 hr
     exact (hf i (by have := List.mem_range.1 hi; omega)).2.2
theorem fields26 : ∃ f0 f1 f2 f3 f4 : Field, Tryz.prog.underlying 26 = some (.struct #[f0, f1, f2, f3, f4]) ∧ (f0.offset = 0 ∧ f1.offset = 1 ∧ f2.offset = 2 ∧ f3.offset = 3 ∧ f4.offset = 4) ∧ (f0.type = 3 ∧ f1.type = 3 ∧ f2.type = 23 ∧ f3.type = 9 ∧ f4.type = 24) := ⟨_, _, _, _, _, Tryz.underlying26, ⟨rfl, rfl, rfl, rfl, rfl⟩, ⟨rfl, rfl, rfl, rfl, rfl⟩⟩
theorem cells26 : Tryz.prog.cellsOf 26 = 5 ∧ Tryz.prog.cellsOf 3 = 1 ∧ Tryz.prog.cellsOf 23 = 1 ∧ Tryz.prog.cellsOf 9 = 1 ∧ Tryz.prog.cellsOf 24 = 1 := ⟨by kernel_rfl, by kernel_rfl, by kernel_rfl, by kernel_rfl, by kernel_rfl⟩
set_option maxRecDepth 100000 in
theorem tr_of_trod {H : Type} {enc : TypeId × Value → H} {W : World} {base : Nat} {sp : Nat → Bool} {held : Bool} (fuel : Nat) : ∀ (cs : List Value) (x : DataW H × List MemPlace), DataW.trod enc Tryz.prog W base sp held fuel 26 cs = some x →
   ∃ q : ND × T, cs = q.1.cs ∧ TR W (fun _ => True) q.2 q.1.v ∧ InT q.2 := by
 induction fuel using Nat.strongRecOn with
 | ind fuel ih =>
   intro cs x h
   obtain ⟨f0, f1, f2, f3, f4, hu, ⟨o0, o1, o2, o3, o4⟩, ⟨t0, t1, t2, t3, t4⟩⟩ := fields26
   obtain ⟨z5, z3, z23, z9, z24⟩ := cells26
   obtain ⟨xs, n, rfl, _, hlen, hxl, hf⟩ := DataW.trod_struct hu h
   rw [z5] at hlen
   match cs, hlen with
   | [c0, c1, c2, c3, c4], _ =>
     have g0 := hf 0 f0 rfl
     have g1 := hf 1 f1 rfl
     have g2 := hf 2 f2 rfl
     have g3 := hf 3 f3 rfl
     have g4 := hf 4 f4 rfl
     simp only [o0, t0, z3] at g0
     simp only [o1, t1, z3] at g1
     simp only [o2, t2, z23] at g2
     simp only [o3, t3, z9] at g3
     simp only [o4, t4, z24] at g4
     match xs, hxl with
     | [y0, y1, y2, y3, y4], _ =>
       replace g0 : DataW.trod enc Tryz.prog W base sp held n 3 [c0] = some y0 := g0
       replace g1 : DataW.trod enc Tryz.prog W base sp held n 3 [c1] = some y1 := g1
       replace g2 : DataW.trod enc Tryz.prog W base sp held n 23 [c2] = some y2 := g2
       replace g3 : DataW.trod enc Tryz.prog W base sp held n 9 [c3] = some y3 := g3
       replace g4 : DataW.trod enc Tryz.prog W base sp held n 24 [c4] = some y4 := g4
       obtain ⟨k, e0, _, _⟩ := DataW.trod_int Tryz.underlying3 g0
       obtain ⟨a, e1, _, _⟩ := DataW.trod_int Tryz.underlying3 g1
       obtain ⟨sp0, sc, s, e2, hs1, hs2, hs3, hs4⟩ := rdr_of_trod g2
       obtain ⟨nm, e3, _, hn⟩ := DataW.trod_string Tryz.underlying9 g3
       simp only [List.cons.injEq, and_true] at e0 e1 e2 e3
       subst e0 e1 e2 e3
       have hnm : nm = ⟨nm.data.toList.toArray⟩ := by cases nm; simp
       have hnl : nm.data.toList.length ≤ 9223372036854775807 := by
         have h0 : nm.data.toList.length = nm.size := Array.length_toList
         have h1 : nm.size ≤ 9223372036854775807 := hn
         omega
       rcases DataW.trod_slice Tryz.underlying24 g4 with ⟨e4, _⟩ | ⟨ad, len, cap, elems, rest, m, hm, e4, _, _, hl, hcm, hel, he, _, _⟩
       · simp only [List.cons.injEq, and_true] at e4
         subst e4
         refine ⟨(⟨k, a, sp0, s.length, sc, nm, none, 0, 0⟩, .mk k a s nm.data.toList []), rfl, ?_, inT_mk ⟨hs4, hnl, hs2, Nat.zero_le _⟩ (fun x hx => by cases hx)⟩
         rw [TR]
         exact ⟨sp0, sc, none, 0, by rw [← hnm]; rfl, hs3, Nat.le_refl _, by rw [KR]; trivial⟩
       · simp only [List.cons.injEq, and_true] at e4
         subst e4
         rw [z5] at he
         have hint : ∀ i, i < len → ∃ q : ND × T, (∃ cs', W.cells? base (ad.add (i * 5)) 5 = some cs' ∧ cs' = q.1.cs) ∧ TR W (fun _ => True) q.2 q.1.v ∧ InT q.2 := by
           intro i hi
           have h1 := he i hi
           rw [List.getElem?_eq_getElem (by omega)] at h1
           obtain ⟨cs', h2, h3⟩ := Option.bind_eq_some_iff.1 h1
           obtain ⟨q, h4, h5, h6⟩ := ih m (by omega) cs' _ h3
           exact ⟨q, ⟨cs', h2, h4⟩, h5, h6⟩
         have : Inhabited (ND × T) := ⟨(⟨0, 0, none, 0, 0, ⟨#[]⟩, none, 0, 0⟩, .mk 0 0 [] [] [])⟩
         obtain ⟨f, hf⟩ := Go.Deep.choose_lt hint
         refine ⟨(⟨k, a, sp0, s.length, sc, nm, some ad, len, cap⟩, .mk k a s nm.data.toList ((List.range len).map fun i => (f i).2)), rfl, ?_, inT_mk ⟨hs4, hnl, hs2, by
           have h0 : (E.T.kids (.mk k a s nm.data.toList ((List.range len).map fun i => (f i).2))).length = len := by simp [T.kids]
           have h1 : cap ≤ 9223372036854775807 := hcm
           show (E.T.kids (.mk k a s nm.data.toList ((List.range len).map fun i => (f i).2))).length ≤ 9223372036854775807
           omega⟩ (fun x hx => ?_)⟩
         · rw [TR]
           refine ⟨sp0, sc, some ad, cap, by rw [← hnm]; simp [ND.v], hs3, by simpa using hl, ?_⟩
           by_cases h0 : len = 0
           · subst h0
             rw [List.range_zero, List.map_nil, KR]; trivial
           have hspot : ad.spot = none := by
             obtain ⟨⟨cs', h2, h3⟩, _⟩ := hf 0 (by omega)
             have h4 := (World.cells?_some h2).2.2 0 (by omega)
             rw [h3] at h4
             have := World.cell?_spot h4
             simpa [Addr.add] using this
           obtain ⟨b, off, spot⟩ := ad
           simp only at hspot
           subst hspot
           refine kr_of _ 0 fun i hi => ?_
           have hi' : i < len := by simpa using hi
           obtain ⟨⟨cs', h2, h3⟩, h5, _⟩ := hf i hi'
           refine ⟨(f i).1.v, by simpa using h5, ?_⟩
           have hc := (World.cells?_some h2).2.2
           rw [h3, Addr.add_mid] at hc
           rw [Nat.zero_add]
           have q0 := hc 0 (by omega)
           have q1 := hc 1 (by omega)
           have q2 := hc 2 (by omega)
           have q3 := hc 3 (by omega)
           have q4 := hc 4 (by omega)
           rw [Addr.add_mid] at q0 q1 q2 q3 q4
           exact ⟨_, _, _, _, _, rfl, q0, q1, q2, q3, q4⟩
         · obtain ⟨i, hi, rfl⟩ := List.mem_map.1 hx
           exact (hf i (List.mem_range.1 hi)).2.2
end Go.Proofs.YtemanednddhfaaaGreatDoor
