/- Joined: Nd7 Ct7. -/
import Derived.Test.YtgngaldoemopjaaGreatDoorENml
import Derived.Test.YtgngaldoemopjaaGreatDoorEIss
import Derived.ProofKit
import Derived.OpenShut
import Derived.ChangeAt
import Derived.Deep.SlicePairs
import Derived.Deep.MidRow
namespace Go.Proofs.YtgngaldoemopjaaGreatDoor
open Go.ChangeShapes Go.WideShapes Go.ChangeAt Go.RowKit
open E (T)
theorem preK_self : ∀ ks : List T, E.preK ks ks = ks.flatMap fun x => E.pre x x
 | [] => by rw [E.preK_nil]; rfl
 | x :: xs => by rw [E.preK_cons, preK_self xs, List.flatMap_cons]
theorem pre_self (t : T) : E.pre t t = (t, t) :: t.kids.flatMap fun x => E.pre x x := by rw [E.pre_eq, preK_self]
def InT (t : T) : Prop := ∀ p ∈ E.pre t t, E.NodeB p.1
theorem inT_mk {t : T} (h : E.NodeB t) (hk : ∀ x ∈ t.kids, InT x) : InT t := by
 intro p hp
 rw [pre_self, List.mem_cons] at hp
 rcases hp with rfl | hp
 · exact h
 · obtain ⟨x, hx, hp⟩ := List.mem_flatMap.1 hp
   exact hk x hx p hp
theorem kr_of {w : World} {b off : Nat} : ∀ (ts : List T) (j : Nat), (∀ i (h : i < ts.length), ∃ v, TR w (fun _ => True) ts[i] v ∧ Cells5 w b (off + (j + i) * 5) v) → KR w (fun _ => True) ts (some ⟨b, off, none⟩) j
 | [], _, _ => by rw [KR]; trivial
 | t :: ts, j, h => by
   rw [KR]
   obtain ⟨v, h1, h2⟩ := h 0 (by simp)
   refine ⟨⟨b, off, v, rfl, trivial, h1, by simpa using h2⟩, kr_of ts (j + 1) fun i hi => ?_⟩
   obtain ⟨v, h1, h2⟩ := h (i + 1) (by simpa using hi)
   exact ⟨v, by simpa using h1, by rw [show j + 1 + i = j + (i + 1) by omega]; exact h2⟩
theorem fields69 : ∃ f0 f1 : Field, Tryz.prog.underlying 140 = some (.struct #[f0, f1]) ∧ f0.offset = 0 ∧ f1.offset = 1 ∧ f0.type = 21 ∧ f1.type = 21 := ⟨_, _, Tryz.underlying140, rfl, rfl, rfl, rfl⟩
theorem rdr_of_trod {H : Type} {enc : TypeId × Value → H} {W : World} {base : Nat} {sp : Nat → Bool} {held : Bool} {fuel : Nat} {cs : List Value} {x : DataW H × List MemPlace}
   (hf : DataW.trod enc Tryz.prog W base sp held fuel 22 cs = some x) : ∃ a0 cap, ∃ xs : List U.S.R, cs = [.slice a0 xs.length cap] ∧ xs.length ≤ cap ∧ xs.length ≤ 9223372036854775807 ∧ (U.RdR W a0 xs ∧ ∀ r ∈ xs, -2147483648 ≤ r.1 ∧ r.1 ≤ 2147483647 ∧ -2147483648 ≤ r.2 ∧ r.2 ≤ 2147483647) := by
 obtain ⟨f0, f1, hu, o0, o1, t0, t1⟩ := fields69
 rcases Go.Deep.open_slice_pairs Tryz.underlying22 hu (by kernel_rfl) o0 o1 (by rw [t0]; kernel_rfl) (by rw [t1]; kernel_rfl) hf with ⟨rfl, _⟩ | ⟨a, len, cap, m, n, V0, V1, D0, D1, P0, P1, rfl, _, hl, hm, hmm, _, hcell⟩
 · exact ⟨none, 0, [], rfl, Nat.zero_le _, Nat.zero_le _, U.rdr_nil _ _, fun r hr => by cases hr⟩
 · have hlm : len ≤ m := by rw [hmm]; split <;> omega
   have hint : ∀ i, i < m → ∃ q : Int × Int, W.cell? (a.add (i * 2)) = some (.int .i32 q.1) ∧ W.cell? (a.add (i * 2 + 1)) = some (.int .i32 q.2) ∧ (-2147483648 ≤ q.1 ∧ q.1 ≤ 2147483647 ∧ -2147483648 ≤ q.2 ∧ q.2 ≤ 2147483647) := by
     intro i hi
     obtain ⟨h0, h1, e0, e1⟩ := hcell i hi
     rw [t0] at e0
     rw [t1] at e1
     obtain ⟨x, ex, _, wx⟩ := DataW.trod_int Tryz.underlying21 e0
     obtain ⟨y, ey, _, wy⟩ := DataW.trod_int Tryz.underlying21 e1
     simp at ex ey
     rw [ex] at h0
     rw [ey] at h1
     have bx := bounds_i32 wx
     have byy := bounds_i32 wy
     exact ⟨(x, y), h0, h1, bx.1, bx.2, byy.1, byy.2⟩
   obtain ⟨f, hf⟩ := Go.Deep.choose_lt hint
   refine ⟨some a, cap, (List.range len).map f, by simp, by simp; omega, by simp; unfold maxLen at hm; omega, ?_, ?_⟩
   · intro i hi
     have hi' : i < len := by simpa using hi
     have hs := hf i (by omega)
     have hspot : a.spot = none := by
       have := World.cell?_spot (hf 0 (by omega)).1
       simpa [Addr.add] using this
     obtain ⟨b, off, spot⟩ := a
     simp only at hspot
     subst hspot
     refine ⟨b, off, rfl, ?_, ?_⟩
     · rw [← Addr.add_mid]
       simp only [List.getElem_map, List.getElem_range]
       exact hs.1
     · rw [Nat.add_assoc, ← Addr.add_mid]
       simp only [List.getElem_map, List.getElem_range]
       exact hs.2.1
   · intro r hr
     obtain ⟨i, hi, rfl⟩ := List.mem_map.1 hr
     exact (hf i (by have := List.mem_range.1 hi; omega)).2.2
theorem fields26 : ∃ f0 f1 f2 f3 f4 : Field, Tryz.prog.underlying 25 = some (.struct #[f0, f1, f2, f3, f4]) ∧ (f0.offset = 0 ∧ f1.offset = 1 ∧ f2.offset = 2 ∧ f3.offset = 3 ∧ f4.offset = 4) ∧ (f0.type = 3 ∧ f1.type = 3 ∧ f2.type = 22 ∧ f3.type = 9 ∧ f4.type = 23) := ⟨_, _, _, _, _, Tryz.underlying25, ⟨rfl, rfl, rfl, rfl, rfl⟩, ⟨rfl, rfl, rfl, rfl, rfl⟩⟩
theorem cells26 : Tryz.prog.cellsOf 25 = 5 ∧ Tryz.prog.cellsOf 3 = 1 ∧ Tryz.prog.cellsOf 22 = 1 ∧ Tryz.prog.cellsOf 9 = 1 ∧ Tryz.prog.cellsOf 23 = 1 := ⟨by kernel_rfl, by kernel_rfl, by kernel_rfl, by kernel_rfl, by kernel_rfl⟩
set_option maxRecDepth 100000 in
theorem tr_of_trod {H : Type} {enc : TypeId × Value → H} {W : World} {base : Nat} {sp : Nat → Bool} {held : Bool} (fuel : Nat) : ∀ (cs : List Value) (x : DataW H × List MemPlace), DataW.trod enc Tryz.prog W base sp held fuel 25 cs = some x →
   ∃ q : ND × T, cs = q.1.cs ∧ TR W (fun _ => True) q.2 q.1.v ∧ InT q.2 := by
 induction fuel using Nat.strongRecOn with
 | ind fuel ih =>
   intro cs x h
   obtain ⟨f0, f1, f2, f3, f4, hu, ⟨o0, o1, o2, o3, o4⟩, ⟨t0, t1, t2, t3, t4⟩⟩ := fields26
   obtain ⟨z5, z3, z23, z9, z24⟩ := cells26
   obtain ⟨xs, n, rfl, _, hlen, hxl, hf⟩ := DataW.trod_struct hu h
   rw [z5] at hlen
   match cs, hlen with
   | [c0, c1, c2, c3, c4], _ =>
     have g0 := hf 0 f0 rfl
     have g1 := hf 1 f1 rfl
     have g2 := hf 2 f2 rfl
     have g3 := hf 3 f3 rfl
     have g4 := hf 4 f4 rfl
     simp only [o0, t0, z3] at g0
     simp only [o1, t1, z3] at g1
     simp only [o2, t2, z23] at g2
     simp only [o3, t3, z9] at g3
     simp only [o4, t4, z24] at g4
     match xs, hxl with
     | [y0, y1, y2, y3, y4], _ =>
       replace g0 : DataW.trod enc Tryz.prog W base sp held n 3 [c0] = some y0 := g0
       replace g1 : DataW.trod enc Tryz.prog W base sp held n 3 [c1] = some y1 := g1
       replace g2 : DataW.trod enc Tryz.prog W base sp held n 22 [c2] = some y2 := g2
       replace g3 : DataW.trod enc Tryz.prog W base sp held n 9 [c3] = some y3 := g3
       replace g4 : DataW.trod enc Tryz.prog W base sp held n 23 [c4] = some y4 := g4
       obtain ⟨k, e0, _, _⟩ := DataW.trod_int Tryz.underlying3 g0
       obtain ⟨a, e1, _, _⟩ := DataW.trod_int Tryz.underlying3 g1
       obtain ⟨sp0, sc, s, e2, hs1, hs2, hs3, hs4⟩ := rdr_of_trod g2
       obtain ⟨nm, e3, _, hn⟩ := DataW.trod_string Tryz.underlying9 g3
       simp only [List.cons.injEq, and_true] at e0 e1 e2 e3
       subst e0 e1 e2 e3
       have hnm : nm = ⟨nm.data.toList.toArray⟩ := by cases nm; simp
       have hnl : nm.data.toList.length ≤ 9223372036854775807 := by
         have h0 : nm.data.toList.length = nm.size := Array.length_toList
         have h1 : nm.size ≤ 9223372036854775807 := hn
         omega
       rcases DataW.trod_slice Tryz.underlying23 g4 with ⟨e4, _⟩ | ⟨ad, len, cap, elems, rest, m, hm, e4, _, _, hl, hcm, hel, he, _, _⟩
       · simp only [List.cons.injEq, and_true] at e4
         subst e4
         refine ⟨(⟨k, a, sp0, s.length, sc, nm, none, 0, 0⟩, .mk k a s nm.data.toList []), rfl, ?_, inT_mk ⟨hs4, hnl, hs2, Nat.zero_le _⟩ (fun x hx => by cases hx)⟩
         rw [TR]
         exact ⟨sp0, sc, none, 0, by rw [← hnm]; rfl, hs3, Nat.le_refl _, by rw [KR]; trivial⟩
       · simp only [List.cons.injEq, and_true] at e4
         subst e4
         rw [z5] at he
         have hint : ∀ i, i < len → ∃ q : ND × T, (∃ cs', W.cells? base (ad.add (i * 5)) 5 = some cs' ∧ cs' = q.1.cs) ∧ TR W (fun _ => True) q.2 q.1.v ∧ InT q.2 := by
           intro i hi
           have h1 := he i hi
           rw [List.getElem?_eq_getElem (by omega)] at h1
           obtain ⟨cs', h2, h3⟩ := Option.bind_eq_some_iff.1 h1
           obtain ⟨q, h4, h5, h6⟩ := ih m (by omega) cs' _ h3
           exact ⟨q, ⟨cs', h2, h4⟩, h5, h6⟩
         have : Inhabited (ND × T) := ⟨(⟨0, 0, none, 0, 0, ⟨#[]⟩, none, 0, 0⟩, .mk 0 0 [] [] [])⟩
         obtain ⟨f, hf⟩ := Go.Deep.choose_lt hint
         refine ⟨(⟨k, a, sp0, s.length, sc, nm, some ad, len, cap⟩, .mk k a s nm.data.toList ((List.range len).map fun i => (f i).2)), rfl, ?_, inT_mk ⟨hs4, hnl, hs2, by
           have h0 : (E.T.kids (.mk k a s nm.data.toList ((List.range len).map fun i => (f i).2))).length = len := by simp [T.kids]
           have h1 : cap ≤ 9223372036854775807 := hcm
           show (E.T.kids (.mk k a s nm.data.toList ((List.range len).map fun i => (f i).2))).length ≤ 9223372036854775807
           omega⟩ (fun x hx => ?_)⟩
         · rw [TR]
           refine ⟨sp0, sc, some ad, cap, by rw [← hnm]; simp [ND.v], hs3, by simpa using hl, ?_⟩
           by_cases h0 : len = 0
           · subst h0
             rw [List.range_zero, List.map_nil, KR]; trivial
           have hspot : ad.spot = none := by
             obtain ⟨⟨cs', h2, h3⟩, _⟩ := hf 0 (by omega)
             have h4 := (World.cells?_some h2).2.2 0 (by omega)
             rw [h3] at h4
             have := World.cell?_spot h4
             simpa [Addr.add] using this
           obtain ⟨b, off, spot⟩ := ad
           simp only at hspot
           subst hspot
           refine kr_of _ 0 fun i hi => ?_
           have hi' : i < len := by simpa using hi
           obtain ⟨⟨cs', h2, h3⟩, h5, _⟩ := hf i hi'
           refine ⟨(f i).1.v, by simpa using h5, ?_⟩
           have hc := (World.cells?_some h2).2.2
           rw [h3, Addr.add_mid] at hc
           rw [Nat.zero_add]
           have q0 := hc 0 (by omega)
           have q1 := hc 1 (by omega)
           have q2 := hc 2 (by omega)
           have q3 := hc 3 (by omega)
           have q4 := hc 4 (by omega)
           rw [Addr.add_mid] at q0 q1 q2 q3 q4
           exact ⟨_, _, _, _, _, rfl, q0, q1, q2, q3, q4⟩
         · obtain ⟨i, hi, rfl⟩ := List.mem_map.1 hx
           exact (hf i (List.mem_range.1 hi)).2.2
end Go.Proofs.YtgngaldoemopjaaGreatDoor
namespace Go.Proofs.YtgngaldoemopjaaGreatDoor
open Go.RowKit Go.Shelf
open E (T)
attribute [local go_sem] Oper.semAt_some
theorem kr_get {w : World} {ok : Nat → Prop} {kp : Option Addr} : ∀ (ts : List T) (j : Nat), KR w ok ts kp j → ∀ i (h : i < ts.length), ∃ b off v, kp = some ⟨b, off, none⟩ ∧ TR w ok ts[i] v ∧ Cells5 w b (off + (j + i) * 5) v
 | [], _, _, i, h => by simp at h
 | t :: ts, j, hk, i, h => by
   rw [KR] at hk
   obtain ⟨⟨b, off, v, e, _, h1, h2⟩, h3⟩ := hk
   cases i with
   | zero => exact ⟨b, off, v, e, h1, by simpa using h2⟩
   | succ i =>
     obtain ⟨b', off', v', e', h1', h2'⟩ := kr_get ts (j + 1) h3 i (by simpa using h)
     exact ⟨b', off', v', e', by simpa using h1', by rw [show j + (i + 1) = j + 1 + i by omega]; exact h2'⟩
def sz (t : T) : Nat := (E.pre t t).length
def sK (ks : List T) : Nat := (ks.flatMap fun x => E.pre x x).length
theorem sz_eq (t : T) : sz t = 1 + sK t.kids := by unfold sz sK; rw [pre_self, List.length_cons]; omega
theorem sK_snoc (l : List T) (x : T) : sK (l ++ [x]) = sK l + sz x := by unfold sK sz; rw [List.flatMap_append, List.length_append]; simp
theorem sK_le (l m : List T) : sK l ≤ sK (l ++ m) := by unfold sK; rw [List.flatMap_append, List.length_append]; omega
set_option maxRecDepth 100000 in
set_option maxHeartbeats 1000000 in
theorem count_step (k a : Int) (s : List U.S.R) (nm : List UInt8) (ks : List T) (hkl : ks.length ≤ 9223372036854775807)
   (ih : ∀ t ∈ ks, ∀ (d : ND) (w : World) (m : Nat), m ≤ 1000000 → TR w (fun _ => True) t d.v → Calls Tryz.prog 9 #[d.v, .int .i64 (m : Int)] w fun r w' => r = .returned (.int .i64 ((min (sz t) (m + 1) : Nat) : Int)) ∧ Below w.heap.size w w')
   (d : ND) (w : World) (m : Nat) (hm : m ≤ 1000000) (hd : TR w (fun _ => True) (.mk k a s nm ks) d.v) : Calls Tryz.prog 9 #[d.v, .int .i64 (m : Int)] w fun r w' => r = .returned (.int .i64 ((min (sz (.mk k a s nm ks)) (m + 1) : Nat) : Int)) ∧ Below w.heap.size w w' := by
 have hsz : sz (.mk k a s nm ks) = 1 + sK ks := sz_eq _
 rw [hsz]
 clear hsz
 rw [TR] at hd
 obtain ⟨sp, sc, kp, kc, e1, _, hk1, hkr1⟩ := hd
 rw [e1]
 clear e1
 have a1 := al1 w (.cells #[.int .i64 k, .int .i64 a, .slice sp s.length sc, .string ⟨nm.toArray⟩, .slice kp ks.length kc] 25)
 have n1 := heap_alloc_new w (.cells #[.int .i64 k, .int .i64 a, .slice sp s.length sc, .string ⟨nm.toArray⟩, .slice kp ks.length kc] 25)
 go_enter Tryz.func9, Tryz.ntmps9
 go_wp2
 go_loopw [5, 6] (fun p u wr => ∃ n i : Nat, p = .int .i64 (n : Int) ∧ u = .int .i64 (i : Int) ∧ i ≤ ks.length ∧ n ≤ 1000001 ∧ Hid (n = min (1 + sK (ks.take i)) (m + 1)) ∧ wr.heap[w.heap.size]? = some (.cells #[.int .i64 k, .int .i64 a, .slice sp s.length sc, .string ⟨nm.toArray⟩, .slice kp ks.length kc] 25) ∧ Below w.heap.size w wr) (fun _ u _ => ks.length - (intOf u).toNat)
 case atStart => exact ⟨1, 0, rfl, rfl, Nat.zero_le _, by omega, hide (by simp [sK]), n1, a1⟩
 case round =>
   obtain ⟨n, i, rfl, rfl, hi, hn, HN, m1, hB⟩ := hrel
   clear n1 a1
   obtain ⟨c0, c1, c2, c3, c4⟩ := cells_five m1
   by_cases hlt : i < ks.length
   · by_cases hnm : n ≤ m
     · obtain ⟨b, off, v, hkp, ht1, hc1⟩ := kr_get _ 0 hkr1 i hlt
       obtain ⟨d1, rfl⟩ : ∃ d1 : ND, v = d1.v := by
         obtain ⟨d1, h, _⟩ := ht1.nd
         exact ⟨d1, h⟩
       subst hkp
       rw [Nat.zero_add] at hc1
       have hl1 := cells5_lt hc1
       obtain ⟨q, hq⟩ : ∃ q : Nat, m - n = q := ⟨_, rfl⟩
       have hq1 : (m : Int) - (n : Int) = (q : Int) := by omega
       have hq2 : q ≤ 1000000 := by omega
       have HQ := hide hq
       clear hq
       have hcl := ih ks[i] (List.getElem_mem hlt) d1 wr q hq2 (TR.later (fun k hk => hB.block k hk) _ ht1)
       have HT : Hid (sK (ks.take (i + 1)) = sK (ks.take i) + sz ks[i]) := hide (by rw [List.take_succ_eq_append_getElem hlt, sK_snoc])
       obtain ⟨z, hz⟩ : ∃ z, sz ks[i] = z := ⟨_, rfl⟩
       rw [hz] at hcl HT
       obtain ⟨r, hr⟩ : ∃ r : Nat, min z (q + 1) = r := ⟨_, rfl⟩
       rw [hr] at hcl
       have hrb : r ≤ 1000001 := by omega
       have HR := hide hr
       have hwl : w.heap.size < wr.heap.size := (Array.getElem?_eq_some_iff.1 m1).1
       obtain ⟨y0, y1, y2, y3, y4, ev, g0, g1, g2, g3, g4⟩ := hc1
       unfold ND.v at hcl ev
       simp only [Value.agg.injEq, Array.mk.injEq, List.cons.injEq, and_true] at ev
       obtain ⟨rfl, rfl, rfl, rfl, rfl⟩ := ev
       have hcb : ∀ j, wr.cell? ⟨b, j, none⟩ = w.cell? ⟨b, j, none⟩ := fun j => World.cell?_of_block (w := w) (a := ⟨b, j, none⟩) (hB.block b hl1)
       rw [← hcb] at g0 g1 g2 g3 g4
       clear ht1 hz hr hcb
       have hnr : (n : Int) + (r : Int) = ((n + r : Nat) : Int) := by omega
       obtain ⟨y, hy⟩ : ∃ y : Nat, n + r = y := ⟨_, rfl⟩
       rw [hy] at hnr
       have HY := hide hy
       have hyb : y ≤ 1000001 := by have := HR.out; have := HQ.out; omega
       clear hy
       go_wp2_with fail
       refine hcl.mono ?_
       rintro e W4 ⟨rfl, hb4⟩
       have M1 := hide ((hb4.block w.heap.size hwl).trans m1)
       have HB := hide (hB.trans (hb4.mono (Nat.le_of_lt hwl)))
       have HN2 : Hid (y = min (1 + sK (ks.take (i + 1))) (m + 1)) := hide (by
         have h1 := HN.out; have h2 := HR.out; have h3 := HQ.out; have h4 := HY.out; have h5 := HT.out
         rw [h5]
         omega)
       clear m1 hcl hb4 c0 c1 c2 c3 c4 g0 g1 g2 g3 g4
       go_wp2
       exact ⟨⟨y, i + 1, rfl, by go_num, by omega, hyb, HN2, M1.out, HB.out⟩, by simp [intOf]; omega⟩
     · have HE : Hid (min (1 + sK ks) (m + 1) = n) := hide (by
         have h1 := HN.out
         have h2 := sK_le (ks.take i) (ks.drop i)
         rw [List.take_append_drop] at h2
         omega)
       go_wp2
       go_ret
       exact ⟨by rw [HE.out] <;> rfl, hB⟩
   · obtain rfl : i = ks.length := by omega
     have HE : Hid (min (1 + sK ks) (m + 1) = n) := hide (by
       have h1 := HN.out
       rw [List.take_length] at h1
       exact h1.symm)
     go_wp2
     go_ret
     exact ⟨by rw [HE.out] <;> rfl, hB⟩
theorem count_n : ∀ (n : Nat) (t : T), SizeOf.sizeOf t < n → InT t → ∀ (d : ND) (w : World) (m : Nat), m ≤ 1000000 → TR w (fun _ => True) t d.v → Calls Tryz.prog 9 #[d.v, .int .i64 (m : Int)] w fun r w' => r = .returned (.int .i64 ((min (sz t) (m + 1) : Nat) : Int)) ∧ Below w.heap.size w w'
 | 0, _, h, _ => absurd h (Nat.not_lt_zero _)
 | n + 1, .mk k a s nm ks, h, hF => fun d w m hm hd => count_step k a s nm ks (hF (.mk k a s nm ks, .mk k a s nm ks) (by rw [pre_self]; exact List.mem_cons_self)).2.2.2 (fun t ht => count_n n t (by
     have := List.sizeOf_lt_of_mem ht
     simp at h
     omega) (fun p hp => hF p (by rw [pre_self]; exact List.mem_cons_of_mem _ (List.mem_flatMap.2 ⟨t, ht, hp⟩)))) d w m hm hd
theorem count_any (t : T) (hF : InT t) (d : ND) (w : World) (m : Nat) (hm : m ≤ 1000000) (hd : TR w (fun _ => True) t d.v) : Calls Tryz.prog 9 #[d.v, .int .i64 (m : Int)] w fun r w' => r = .returned (.int .i64 ((min (sz t) (m + 1) : Nat) : Int)) ∧ Below w.heap.size w w' :=
 count_n (SizeOf.sizeOf t + 1) t (Nat.lt_succ_self _) hF d w m hm hd
end Go.Proofs.YtgngaldoemopjaaGreatDoor
