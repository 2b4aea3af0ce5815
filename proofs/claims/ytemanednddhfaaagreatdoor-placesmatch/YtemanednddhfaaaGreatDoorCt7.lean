/- The reference's Count. -/
import Derived.Test.YtemanednddhfaaaGreatDoorNd7
namespace Go.Proofs.YtemanednddhfaaaGreatDoor
open Go.RowKit Go.Shelf
open E (T)
attribute [local go_sem] Oper.semAt_some
theorem kr_get {w : World} {ok : Nat → Prop} {kp : Option Addr} : ∀ (ts : List T) (j : Nat), KR w ok ts kp j → ∀ i (h : i < ts.length), ∃ b off v, kp = some ⟨b, off, none⟩ ∧ TR w ok ts[i] v ∧ Cells5 w b (off + (j + i) * 5) v
 | [], _, _, i, h => by simp at h
 | t :: ts, j, hk, i, h => by
   rw [KR] at hk
   obtain ⟨⟨b, off, v, e, _, h1, h2⟩, h3⟩ := hk
   cases i with
   | zero => exact ⟨b, off, v, e, h1, by simpa using h2⟩
   | succ i =>
     obtain ⟨b', off', v', e', h1', h2'⟩ := kr_get ts (j + 1) h3 i (by simpa using h)
     exact ⟨b', off', v', e', by simpa using h1', by rw [show j + (i + 1) = j + 1 + i by omega]; exact h2'⟩
def sz (t : T) : Nat := (E.pre t t).length
def sK (ks : List T) : Nat := (ks.flatMap fun x => E.pre x x).length
theorem sz_eq (t : T) : sz t = 1 + sK t.kids := by unfold sz sK; rw [pre_self, List.length_cons]; omega
theorem sK_snoc (l : List T) (x : T) : sK (l ++ [x]) = sK l + sz x := by unfold sK sz; rw [List.flatMap_append, List.length_append]; simp
theorem sK_le (l m : List T) : sK l ≤ sK (l ++ m) := by unfold sK; rw [List.flatMap_append, List.length_append]; omega
set_option maxRecDepth 100000 in
set_option maxHeartbeats 1000000 in
theorem count_step (k a : Int) (s : List U.S.R) (nm : List UInt8) (ks : List T) (hkl : ks.length ≤ 9223372036854775807)
   (ih : ∀ t ∈ ks, ∀ (d : ND) (w : World) (m : Nat), m ≤ 1000000 → TR w (fun _ => True) t d.v → Calls Tryz.prog 18 #[d.v, .int .i64 (m : Int)] w fun r w' => r = .returned (.int .i64 ((min (sz t) (m + 1) : Nat) : Int)) ∧ Below w.heap.size w w')
   (d : ND) (w : World) (m : Nat) (hm : m ≤ 1000000) (hd : TR w (fun _ => True) (.mk k a s nm ks) d.v) : Calls Tryz.prog 18 #[d.v, .int .i64 (m : Int)] w fun r w' => r = .returned (.int .i64 ((min (sz (.mk k a s nm ks)) (m + 1) : Nat) : Int)) ∧ Below w.heap.size w w' := by
 have hsz : sz (.mk k a s nm ks) = 1 + sK ks := sz_eq _
 rw [hsz]
 clear hsz
 rw [TR] at hd
 obtain ⟨sp, sc, kp, kc, e1, _, hk1, hkr1⟩ := hd
 rw [e1]
 clear e1
 have a1 := al1 w (.cells #[.int .i64 k, .int .i64 a, .slice sp s.length sc, .string ⟨nm.toArray⟩, .slice kp ks.length kc] 26)
 have n1 := heap_alloc_new w (.cells #[.int .i64 k, .int .i64 a, .slice sp s.length sc, .string ⟨nm.toArray⟩, .slice kp ks.length kc] 26)
 go_enter Tryz.func18, Tryz.ntmps18
 go_wp2
 go_loopw [5, 6] (fun p u wr => ∃ n i : Nat, p = .int .i64 (n : Int) ∧ u = .int .i64 (i : Int) ∧ i ≤ ks.length ∧ n ≤ 1000001 ∧ Hid (n = min (1 + sK (ks.take i)) (m + 1)) ∧ wr.heap[w.heap.size]? = some (.cells #[.int .i64 k, .int .i64 a, .slice sp s.length sc, .string ⟨nm.toArray⟩, .slice kp ks.length kc] 26) ∧ Below w.heap.size w wr) (fun _ u _ => ks.length - (intOf u).toNat)
 case atStart => exact ⟨1, 0, rfl, rfl, Nat.zero_le _, by omega, hide (by simp [sK]), n1, a1⟩
 case round =>
   obtain ⟨n, i, rfl, rfl, hi, hn, HN, m1, hB⟩ := hrel
   clear n1 a1
   obtain ⟨c0, c1, c2, c3, c4⟩ := cells_five m1
   by_cases hlt : i < ks.length
   · by_cases hnm : n ≤ m
     · obtain ⟨b, off, v, hkp, ht1, hc1⟩ := kr_get _ 0 hkr1 i hlt
       obtain ⟨d1, rfl⟩ : ∃ d1 : ND, v = d1.v := by
         obtain ⟨d1, h, _⟩ := ht1.nd
         exact ⟨d1, h⟩
       subst hkp
       rw [Nat.zero_add] at hc1
       have hl1 := cells5_lt hc1
       obtain ⟨q, hq⟩ : ∃ q : Nat, m - n = q := ⟨_, rfl⟩
       have hq1 : (m : Int) - (n : Int) = (q : Int) := by omega
       have hq2 : q ≤ 1000000 := by omega
       have HQ := hide hq
       clear hq
       have hcl := ih ks[i] (List.getElem_mem hlt) d1 wr q hq2 (TR.later (fun k hk => hB.block k hk) _ ht1)
       have HT : Hid (sK (ks.take (i + 1)) = sK (ks.take i) + sz ks[i]) := hide (by rw [List.take_succ_eq_append_getElem hlt, sK_snoc])
       obtain ⟨z, hz⟩ : ∃ z, sz ks[i] = z := ⟨_, rfl⟩
       rw [hz] at hcl HT
       obtain ⟨r, hr⟩ : ∃ r : Nat, min z (q + 1) = r := ⟨_, rfl⟩
       rw [hr] at hcl
       have hrb : r ≤ 1000001 := by omega
       have HR := hide hr
       have hwl : w.heap.size < wr.heap.size := (Array.getElem?_eq_some_iff.1 m1).1
       obtain ⟨y0, y1, y2, y3, y4, ev, g0, g1, g2, g3, g4⟩ := hc1
       unfold ND.v at hcl ev
       simp only [Value.agg.injEq, Array.mk.injEq, List.cons.injEq, and_true] at ev
       obtain ⟨rfl, rfl, rfl, rfl, rfl⟩ := ev
       have hcb : ∀ j, wr.cell? ⟨b, j, none⟩ = w.cell? ⟨b, j, none⟩ := fun j => World.cell?_of_block (w := w) (a := ⟨b, j, none⟩) (hB.block b hl1)
       rw [← hcb] at g0 g1 g2 g3 g4
       clear ht1 hz hr hcb
       have hnr : (n : Int) + (r : Int) = ((n + r : Nat) : Int) := by omega
       obtain ⟨y, hy⟩ : ∃ y : Nat, n + r = y := ⟨_, rfl⟩
       rw [hy] at hnr
       have HY := hide hy
       have hyb : y ≤ 1000001 := by have := HR.out; have := HQ.out; omega
       clear hy
       go_wp2_with fail
       refine hcl.mono ?_
       rintro e W4 ⟨rfl, hb4⟩
       have M1 := hide ((hb4.block w.heap.size hwl).trans m1)
       have HB := hide (hB.trans (hb4.mono (Nat.le_of_lt hwl)))
       have HN2 : Hid (y = min (1 + sK (ks.take (i + 1))) (m + 1)) := hide (by
         have h1 := HN.out; have h2 := HR.out; have h3 := HQ.out; have h4 := HY.out; have h5 := HT.out
         rw [h5]
         omega)
       clear m1 hcl hb4 c0 c1 c2 c3 c4 g0 g1 g2 g3 g4
       go_wp2
       exact ⟨⟨y, i + 1, rfl, by go_num, by omega, hyb, HN2, M1.out, HB.out⟩, by simp [intOf]; omega⟩
     · have HE : Hid (min (1 + sK ks) (m + 1) = n) := hide (by
         have h1 := HN.out
         have h2 := sK_le (ks.take i) (ks.drop i)
         rw [List.take_append_drop] at h2
         omega)
       go_wp2
       go_ret
       exact ⟨by rw [HE.out] <;> rfl, hB⟩
   · obtain rfl : i = ks.length := by omega
     have HE : Hid (min (1 + sK ks) (m + 1) = n) := hide (by
       have h1 := HN.out
       rw [List.take_length] at h1
       exact h1.symm)
     go_wp2
     go_ret
     exact ⟨by rw [HE.out] <;> rfl, hB⟩
theorem count_n : ∀ (n : Nat) (t : T), SizeOf.sizeOf t < n → InT t → ∀ (d : ND) (w : World) (m : Nat), m ≤ 1000000 → TR w (fun _ => True) t d.v → Calls Tryz.prog 18 #[d.v, .int .i64 (m : Int)] w fun r w' => r = .returned (.int .i64 ((min (sz t) (m + 1) : Nat) : Int)) ∧ Below w.heap.size w w'
 | 0, _, h, _ => absurd h (Nat.not_lt_zero _)
 | n + 1, .mk k a s nm ks, h, hF => fun d w m hm hd => count_step k a s nm ks (hF (.mk k a s nm ks, .mk k a s nm ks) (by rw [pre_self]; exact List.mem_cons_self)).2.2.2 (fun t ht => count_n n t (by
     have := List.sizeOf_lt_of_mem ht
     simp at h
     omega) (fun p hp => hF p (by rw [pre_self]; exact List.mem_cons_of_mem _ (List.mem_flatMap.2 ⟨t, ht, hp⟩)))) d w m hm hd
theorem count_any (t : T) (hF : InT t) (d : ND) (w : World) (m : Nat) (hm : m ≤ 1000000) (hd : TR w (fun _ => True) t d.v) : Calls Tryz.prog 18 #[d.v, .int .i64 (m : Int)] w fun r w' => r = .returned (.int .i64 ((min (sz t) (m + 1) : Nat) : Int)) ∧ Below w.heap.size w w' :=
 count_n (SizeOf.sizeOf t + 1) t (Nat.lt_succ_self _) hF d w m hm hd
end Go.Proofs.YtemanednddhfaaaGreatDoor
