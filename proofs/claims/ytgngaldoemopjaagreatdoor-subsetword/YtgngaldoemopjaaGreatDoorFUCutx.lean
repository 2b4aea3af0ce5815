/- Joined: UCute UCutw UCutx. -/
import Derived.Test.YtgngaldoemopjaaGreatDoorFUCutd
import Derived.Test.YtgngaldoemopjaaGreatDoorFURegu
namespace Go.Proofs.YtgngaldoemopjaaGreatDoor.U
open Go.RowKit Go.Shelf
section
variable {w : World} {e0 n nm : Nat} {f : Int → Option Int} {cs : List (Nat × Value)} {sets : Nat → List S.R} {ps : List (Int × Nat)} {vcl vps : Value} {A B : World} {rb : Nat} {lo hi : Int}
theorem below_chg {p : Nat → Prop} {k : Nat} (h : Below k w A) (hc : Chg p A B) (hk : k ≤ w.heap.size) (hp : ∀ i, i < k → ¬ p i) : Below k w B :=
 ⟨hc.os.trans h.os, hc.tape.trans h.tape, hc.output.trans h.output, Nat.le_trans h.size hc.size, fun i hi => (hc.block i (by have := h.size; omega) (hp i hi)).trans (h.block i hi)⟩
theorem chg_same {p : Nat → Prop} (hc : Chg p A B) {k : Nat} {o : Obj} (hk : A.heap[k]? = some o) (hp : ¬ p k) : B.heap[k]? = some o := (hc.block k (Array.getElem?_eq_some_iff.1 hk).1 hp).trans hk
theorem own_chg {p : Nat → Prop} (hc : Chg p A B) {b e s m : Nat} {v : Value} {xs : List Value} (h : A.ownsRow b e s v m xs) (hp : ∀ g, v.ownBlock = some g → ¬ p g) : B.ownsRow b e s v m xs :=
 own_same h fun g hg => hc.block g (h.lt g hg).2 (hp g hg)
theorem own_apart {b b' e e' s s' m m' : Nat} {v v' : Value} {xs xs' : List Value} (h : A.ownsRow b e s v m xs) (h' : A.ownsRow b' e' s' v' m' xs') (hne : e ≠ e') {g : Nat} (h1 : v.ownBlock = some g) : some g ≠ v'.ownBlock := by
 intro h2
 obtain ⟨_, h3⟩ := own_tag h h1
 obtain ⟨_, h4⟩ := own_tag h' h2.symm
 rw [h3] at h4
 cases h4
 exact hne rfl
theorem Sx.mapped (h : Sx w e0 n nm f cs sets ps vcl vps A) (he : w.heap.size + 4 ≤ e0) {nm' : Nat} {f' : Int → Option Int} (hm : Mp B 141 .u64 3 .i64 (w.heap.size + 2) nm' f') (hg : A.grownBy B (some (w.heap.size + 2))) :
   Sx w e0 n nm' f' cs sets ps vcl vps B ∧ Step w.heap.size rb A B := by
 have hc : Chg (fun k => k = w.heap.size + 2) A B := ⟨hg.os, hg.tape, hg.output, hg.size, fun k hk hp => hg.block k hk (fun e => hp (by cases e; rfl))⟩
 refine ⟨⟨below_chg h.below hc (Nat.le_refl _) (fun i hi => by omega), chg_same hc h.st (by omega), chg_same hc h.bx (by omega), chg_same hc h.mb (by omega), hm, own_chg hc h.rc fun g hg => ?_, own_chg hc h.rp fun g hg => ?_, fun i hi => own_chg hc (h.rs i hi) fun g hg => ?_, h.dj, Nat.le_trans h.le hc.size⟩, hc.mono fun k _ hk => .inr (.inl hk)⟩
 · have := (h.rc.lt g hg).1; omega
 · have := (h.rp.lt g hg).1; omega
 · have := (World.ownsRow.lt (h.rs i hi) g hg).1; omega
theorem Sx.classed (h : Sx w e0 n nm f cs sets ps vcl vps A) (he : w.heap.size + 4 ≤ e0) (hrb : A.heap[rb]? = some (.cells #[.int .i32 lo, .int .i32 hi] 140 (0, 0))) {m : Nat} (hm : sets m = []) {v' : Value} (h1 : B.heap[w.heap.size]? = some (.cells #[.int .i64 (n : Int), v', vps] 69 (0, 0)))
   (h2 : B.ownsRow e0 143 2 v' (cs.length + 1) (cC cs ++ [.int .u64 (m : Int), .slice none 0 0])) (hc : Chg (fun k => k = w.heap.size ∨ some k = vcl.ownBlock) A B) :
   Sx w e0 n nm f (cs ++ [(m, .slice none 0 0)]) sets ps v' vps B ∧ Step w.heap.size rb A B := by
 have hS : ∀ k, k < e0 → some k ≠ vcl.ownBlock := fun k hk e => by have := (h.rc.lt k e.symm).1; omega
 refine ⟨⟨below_chg h.below hc (Nat.le_refl _) ?_, h1, chg_same hc h.bx ?_, chg_same hc h.mb ?_, ?_, ?_, own_chg hc h.rp fun g hg => ?_, fun i hi => ?_, fun i j hi hj hij => ?_, Nat.le_trans h.le hc.size⟩, hc.mono fun k _ hk => ?_⟩
 · rintro i hi (e | e)
   · omega
   · exact hS i (by omega) e
 · rintro (e | e)
   · omega
   · exact hS _ (by omega) e
 · rintro (e | e)
   · omega
   · exact hS _ (by omega) e
 · obtain ⟨es, c, hmm⟩ := h.mp.isMap
   refine h.mp.kept ((chg_same hc hmm ?_).trans hmm.symm)
   rintro (e | e)
   · omega
   · exact hS _ (by omega) e
 · rw [List.length_append, cC_snoc]; exact h2
 · rintro (e | e)
   · have := (h.rp.lt g hg).1; omega
   · exact own_apart h.rp h.rc (by decide) hg e
 · by_cases hlt : i < cs.length
   · rw [List.getElem_append_left hlt]
     refine own_chg hc (h.rs i hlt) fun g hg => ?_
     rintro (e | e)
     · have := (World.ownsRow.lt (h.rs i hlt) g hg).1; omega
     · exact own_apart (h.rs i hlt) h.rc (by decide) hg e
   · obtain rfl : i = cs.length := by simp at hi; omega
     rw [List.getElem_append_right (Nat.le_refl _)]
     simp only [Nat.sub_self, List.getElem_singleton, hm]
     exact ownR_nil _ _ _
 · by_cases hlt : i < cs.length
   · rw [List.getElem_append_left hlt]
     by_cases hlj : j < cs.length
     · rw [List.getElem_append_left hlj]
       exact h.dj i j hlt hlj hij
     · obtain rfl : j = cs.length := by simp at hj; omega
       rw [List.getElem_append_right (Nat.le_refl _)]
       cases hv : cs[i].2.ownBlock with
       | none => exact .inl rfl
       | some g => right; simp [Value.ownBlock]
   · obtain rfl : i = cs.length := by simp at hi; omega
     rw [List.getElem_append_right (Nat.le_refl _)]
     left
     simp [Value.ownBlock]
 · rcases hk with e | e
   · exact .inl e
   · refine .inr (.inr ?_)
     obtain ⟨cur, hcur⟩ := own_tag h.rc e.symm
     refine ⟨_, hcur, rfl, ?_⟩
     rintro rfl
     rw [hrb] at hcur
     cases hcur
theorem Sx.ranged (h : Sx w e0 n nm f cs sets ps vcl vps A) (he : w.heap.size + 4 ≤ e0) (hrb : A.heap[rb]? = some (.cells #[.int .i32 lo, .int .i32 hi] 140 (0, 0))) {k : Nat} (hk : k < cs.length) (hR : some rb ≠ cs[k].2.ownBlock) (hnd : (cs.map (·.1)).Nodup) {sets' : Nat → List S.R}
   (hs1 : sets' cs[k].1 = sets cs[k].1 ++ [(lo, hi)]) (hs2 : ∀ m, m ≠ cs[k].1 → sets' m = sets m) {v' : Value} (h1 : B.ownsRow e0 143 2 vcl cs.length ((cC cs).set (k * 2 + 1) v')) (h2 : B.ownsRow e0 140 2 v' ((sets cs[k].1).length + 1) (cR (sets cs[k].1) ++ [.int .i32 lo, .int .i32 hi]))
   (hat : v'.ownBlock = cs[k].2.ownBlock ∨ ∃ g, v'.ownBlock = some g ∧ A.heap.size ≤ g) (hc : Chg (fun j => some j = vcl.ownBlock ∨ some j = cs[k].2.ownBlock) A B) :
   Sx w e0 n nm f (cs.set k (cs[k].1, v')) sets' ps vcl vps B ∧ Step w.heap.size rb A B := by
 have hS : ∀ j, j < e0 → ¬ (some j = vcl.ownBlock ∨ some j = cs[k].2.ownBlock) := by
   rintro j hj (e | e)
   · have := (h.rc.lt j e.symm).1; omega
   · have := (World.ownsRow.lt (h.rs k hk) j e.symm).1; omega
 refine ⟨⟨below_chg h.below hc (Nat.le_refl _) (fun i hi => hS i (by omega)), chg_same hc h.st (hS _ (by omega)), chg_same hc h.bx (hS _ (by omega)), chg_same hc h.mb (hS _ (by omega)), ?_, ?_, own_chg hc h.rp fun g hg => ?_, fun i hi => ?_, fun i j hi hj hij => ?_, Nat.le_trans h.le hc.size⟩, hc.mono fun j _ hj => ?_⟩
 · obtain ⟨es, c, hmm⟩ := h.mp.isMap
   exact h.mp.kept ((chg_same hc hmm (hS _ (by omega))).trans hmm.symm)
 · rw [List.length_set, ← cC_set cs k hk v']; exact h1
 · rintro (e | e)
   · exact own_apart h.rp h.rc (by decide) hg e
   · exact own_apart h.rp (h.rs k hk) (by decide) hg e
 · have hi' : i < cs.length := by simpa using hi
   by_cases hik : k = i
   · subst hik
     rw [List.getElem_set_self]
     unfold OwnR
     simp only [hs1]
     rw [List.length_append, cR_append]
     exact h2
   · rw [List.getElem_set_ne hik]
     have hne : cs[i].1 ≠ cs[k].1 := fun e => hik ((List.getElem_inj (xs := cs.map (·.1)) (h₀ := by simpa using hk) (h₁ := by simpa using hi') hnd).1 (by simpa using e.symm))
     rw [hs2 _ hne]
     refine own_chg hc (h.rs i hi') fun g hg => ?_
     rintro (e | e)
     · exact own_apart (h.rs i hi') h.rc (by decide) hg e
     · rcases h.dj i k hi' hk (Ne.symm hik) with e1 | e1
       · rw [hg] at e1; cases e1
       · exact e1 (hg.trans e)
 · have hi' : i < cs.length := by simpa using hi
   have hj' : j < cs.length := by simpa using hj
   by_cases hik : k = i
   · subst hik
     rw [List.getElem_set_self, List.getElem_set_ne hij]
     rcases hat with e | ⟨g, e, hg⟩
     · simp only [e]; exact h.dj k j hk hj' hij
     · right
       simp only [e]
       intro e2
       have := (World.ownsRow.lt (h.rs j hj') g e2.symm).2
       omega
   · rw [List.getElem_set_ne hik]
     by_cases hjk : k = j
     · subst hjk
       rw [List.getElem_set_self]
       rcases hat with e | ⟨g, e, hg⟩
       · simp only [e]; exact h.dj i k hi' hk hij
       · right
         simp only [e]
         intro e2
         have := (World.ownsRow.lt (h.rs i hi') g e2).2
         omega
     · rw [List.getElem_set_ne hjk]
       exact h.dj i j hi' hj' hij
 · refine .inr (.inr ?_)
   rcases hj with e | e
   · obtain ⟨cur, hcur⟩ := own_tag h.rc e.symm
     refine ⟨_, hcur, rfl, ?_⟩
     rintro rfl
     rw [hrb] at hcur
     cases hcur
   · obtain ⟨cur, hcur⟩ := own_tag (h.rs k hk) e.symm
     refine ⟨_, hcur, rfl, ?_⟩
     rintro rfl
     exact hR e
theorem Sx.pieced (h : Sx w e0 n nm f cs sets ps vcl vps A) (he : w.heap.size + 4 ≤ e0) (hrb : A.heap[rb]? = some (.cells #[.int .i32 lo, .int .i32 hi] 140 (0, 0))) {k : Nat} {v' : Value} (h1 : B.heap[w.heap.size]? = some (.cells #[.int .i64 (n : Int), vcl, v'] 69 (0, 0)))
   (h2 : B.ownsRow e0 123 2 v' (ps.length + 1) (cP ps ++ [.int .i32 lo, .int .i64 (k : Int)])) (hc : Chg (fun k => k = w.heap.size ∨ some k = vps.ownBlock) A B) :
   Sx w e0 n nm f cs sets (ps ++ [(lo, k)]) vcl v' B ∧ Step w.heap.size rb A B := by
 have hS : ∀ k, k < e0 → some k ≠ vps.ownBlock := fun k hk e => by have := (h.rp.lt k e.symm).1; omega
 refine ⟨⟨below_chg h.below hc (Nat.le_refl _) ?_, h1, chg_same hc h.bx ?_, chg_same hc h.mb ?_, ?_, own_chg hc h.rc fun g hg => ?_, ?_, fun i hi => own_chg hc (h.rs i hi) fun g hg => ?_, h.dj, Nat.le_trans h.le hc.size⟩, hc.mono fun k _ hk => ?_⟩
 · rintro i hi (e | e)
   · omega
   · exact hS i (by omega) e
 · rintro (e | e)
   · omega
   · exact hS _ (by omega) e
 · rintro (e | e)
   · omega
   · exact hS _ (by omega) e
 · obtain ⟨es, c, hmm⟩ := h.mp.isMap
   refine h.mp.kept ((chg_same hc hmm ?_).trans hmm.symm)
   rintro (e | e)
   · omega
   · exact hS _ (by omega) e
 · rintro (e | e)
   · have := (h.rc.lt g hg).1; omega
   · exact own_apart h.rc h.rp (by decide) hg e
 · rw [List.length_append, cP_snoc]; exact h2
 · rintro (e | e)
   · have := (World.ownsRow.lt (h.rs i hi) g hg).1; omega
   · exact own_apart (h.rs i hi) h.rp (by decide) hg e
 · rcases hk with e | e
   · exact .inl e
   · refine .inr (.inr ?_)
     obtain ⟨cur, hcur⟩ := own_tag h.rp e.symm
     refine ⟨_, hcur, rfl, ?_⟩
     rintro rfl
     rw [hrb] at hcur
     cases hcur
end
def St (w : World) (e0 n : Nat) (pre : List (S.R × Nat)) (A : World) : Prop :=
 ∃ (cs : List (Nat × Value)) (vcl vps : Value), cs.map (·.1) = msOf pre ∧ Sx w e0 n cs.length (fM (msOf pre)) cs (setsOf pre) (psOf (msOf pre) pre) vcl vps A
end Go.Proofs.YtgngaldoemopjaaGreatDoor.U
namespace Go.Proofs.YtgngaldoemopjaaGreatDoor.U
open Go.RowKit Go.Shelf
attribute [local go_sem] Oper.semAt_some
theorem RdS.take {w : World} {sao : Option Addr} {ls : List L3} (h : RdS w sao ls) (k : Nat) : RdS w sao (ls.take k) := fun i hi => by
 have hi' : i < ls.length := by rw [List.length_take] at hi; omega
 obtain ⟨b, off, e, h1, h2⟩ := h i hi'
 refine ⟨b, off, e, ?_, ?_⟩
 · rw [List.getElem_take]; exact h1
 · rw [List.getElem_take]; exact h2
theorem runP_in {zs : List (Int × Nat)} (h : ∀ p ∈ zs, 0 ≤ p.1 ∧ p.1 ≤ 1114112 ∧ p.2 < 2 ^ 64) : (runP zs).2.length ≤ zs.length ∧ ∀ p ∈ (runP zs).2, 0 ≤ p.1.1 ∧ p.1.1 ≤ p.1.2 ∧ p.1.2 ≤ 1114111 ∧ p.2 < 2 ^ 64 := by
 rcases List.eq_nil_or_concat zs with rfl | ⟨zs', ⟨a, t⟩, rfl⟩
 · simp [runP]
 · rw [List.concat_eq_append] at h ⊢
   rw [runP_snoc]
   have h1 := h (a, t) (by simp)
   have ih := runP_in (zs := zs') (fun p hp => h p (by simp [hp]))
   have hb := runP_bounds (zs := zs') (fun p hp => h p (by simp [hp]))
   simp only at h1
   split
   · rename_i hlt
     refine ⟨by simp; omega, fun p hp => ?_⟩
     rcases List.mem_append.1 hp with h2 | h2
     · exact ih.2 p h2
     · obtain rfl : p = _ := by simpa using h2
       refine ⟨hb.1, ?_, ?_, hb.2.2⟩
       · simp only; omega
       · simp only; omega
   · simp only [List.append_nil, List.length_append]
     exact ⟨by simp; omega, ih.2⟩
termination_by zs.length
decreasing_by simp_all
theorem pieces_in {zs : List (Int × Nat)} (h : ∀ p ∈ zs, 0 ≤ p.1 ∧ p.1 ≤ 1114112 ∧ p.2 < 2 ^ 64) : (pieces zs).length ≤ zs.length + 1 ∧ ∀ p ∈ pieces zs, 0 ≤ p.1.1 ∧ p.1.1 ≤ p.1.2 ∧ p.1.2 ≤ 1114111 ∧ p.2 < 2 ^ 64 := by
 have hb := runP_bounds h
 have hi := runP_in h
 unfold pieces
 split
 · rename_i hle
   refine ⟨by simp; omega, fun p hp => ?_⟩
   rcases List.mem_append.1 hp with h2 | h2
   · exact hi.2 p h2
   · obtain rfl : p = _ := by simpa using h2
     exact ⟨hb.1, hle, Int.le_refl _, hb.2.2⟩
 · rw [List.append_nil]
   exact ⟨by omega, hi.2⟩
theorem cut_start (w : World) (n cap : Nat) (sao : Option Addr) (L : Nat) {W5 We : World} (h5 : ((((w.alloc (.cells #[.int .i64 (n : Int), .slice none 0 0, .slice none 0 0] 69)).alloc (.cells #[.pointer (some ⟨w.heap.size, 0, none⟩)] 91)).alloc (.map #[] 0)).alloc (.cells #[.map (some (w.heap.size + 1 + 1))] 135)).alloc (.cells #[.slice sao L cap] 93) = W5) (hb : Below W5.heap.size W5 We) :
   W5.heap.size = w.heap.size + 5 ∧ St w We.heap.size n [] We ∧ We.cell? ⟨w.heap.size + 1 + 1 + 1 + 1, 0, none⟩ = some (.slice sao L cap) := by
 have a1 := al1 w (.cells #[.int .i64 (n : Int), .slice none 0 0, .slice none 0 0] 69)
 have n1 := World.alloc_heap_new w (.cells #[.int .i64 (n : Int), .slice none 0 0, .slice none 0 0] 69)
 have s1 := World.size_alloc w (.cells #[.int .i64 (n : Int), .slice none 0 0, .slice none 0 0] 69)
 generalize w.alloc (.cells #[.int .i64 (n : Int), .slice none 0 0, .slice none 0 0] 69) = w1 at *
 have a2 := al1 w1 (.cells #[.pointer (some ⟨w.heap.size, 0, none⟩)] 91)
 have n2 := World.alloc_heap_new w1 (.cells #[.pointer (some ⟨w.heap.size, 0, none⟩)] 91)
 have s2 := World.size_alloc w1 (.cells #[.pointer (some ⟨w.heap.size, 0, none⟩)] 91)
 generalize w1.alloc (.cells #[.pointer (some ⟨w.heap.size, 0, none⟩)] 91) = w2 at *
 have a3 := al1 w2 (.map #[] 0)
 have n3 : Mp (w2.alloc (.map #[] 0)) 141 .u64 3 .i64 w2.heap.size 0 (fun _ => none) := Mp.made w2
 have s3 := World.size_alloc w2 (.map #[] 0)
 generalize w2.alloc (.map #[] 0) = w3 at *
 have a4 := al1 w3 (.cells #[.map (some (w.heap.size + 1 + 1))] 135)
 have n4 := World.alloc_heap_new w3 (.cells #[.map (some (w.heap.size + 1 + 1))] 135)
 have s4 := World.size_alloc w3 (.cells #[.map (some (w.heap.size + 1 + 1))] 135)
 generalize w3.alloc (.cells #[.map (some (w.heap.size + 1 + 1))] 135) = w4 at *
 have a5 := al1 w4 (.cells #[.slice sao L cap] 93)
 have n5 := World.alloc_heap_new w4 (.cells #[.slice sao L cap] 93)
 have s5 := World.size_alloc w4 (.cells #[.slice sao L cap] 93)
 generalize w4.alloc (.cells #[.slice sao L cap] 93) = w5 at *
 subst h5
 have b4 := nx a5 hb
 have b3 := nx a4 b4
 have b2 := nx a3 b3
 have b1 := nx a2 b2
 have b0 := nx a1 b1
 have e1 : w1.heap.size = w.heap.size + 1 := by omega
 have e2 : w2.heap.size = w.heap.size + 2 := by omega
 have e3 : w3.heap.size = w.heap.size + 3 := by omega
 have e4 : w4.heap.size = w.heap.size + 4 := by omega
 refine ⟨by omega, ⟨[], .slice none 0 0, .slice none 0 0, rfl, ⟨b0, (b1.block _ (by omega)).trans n1, ?_, ?_, ?_, World.ownsRow_nil _ _ _ _, World.ownsRow_nil _ _ _ _, fun i hi => (by simp at hi), fun i j hi => (by simp at hi), Nat.le_refl _⟩⟩, ?_⟩
 · rw [← e1]; exact (b2.block _ (by omega)).trans n2
 · rw [← e3]; exact (b4.block _ (by omega)).trans n4
 · rw [← e2, show msOf [] = [] from rfl, fM_nil]; exact n3.later b3
 · refine cell_at (cs := #[.slice sao L cap]) (t := 93) (fz := (0, 0)) ?_ rfl
   rw [show w.heap.size + 1 + 1 + 1 + 1 = w4.heap.size by omega]
   exact (hb.block _ (by omega)).trans n5
end Go.Proofs.YtgngaldoemopjaaGreatDoor.U
namespace Go.Proofs.YtgngaldoemopjaaGreatDoor.U
open Go.RowKit Go.Shelf
attribute [local go_sem] Oper.semAt_some
theorem insK_length (x : Int) : ∀ l : List Int, (insK x l).length ≤ l.length + 1
 | [] => by simp [insK]
 | y :: l => by
   have := insK_length x l
   unfold insK
   split
   · simp
   · split
     · simp
     · simp; omega
theorem ksOf_length (L : List (Int × Nat)) : (ksOf L).length ≤ L.length := by
 induction L with
 | nil => simp [ksOf]
 | cons p L ih =>
   have := insK_length p.1 (ksOf L)
   have e : ksOf (p :: L) = insK p.1 (ksOf L) := rfl
   rw [e, List.length_cons]
   omega
theorem endsZ_length (ls : List L3) (hl : ls.length ≤ 64) (hl2 : ∀ p ∈ ls, p.2.2.length ≤ 5000) : (endsZ ls).length ≤ 640000 := by
 have h1 := ksOf_length (endsL ls)
 have h2 := evT_length (T := TOf ls) (m := 5000) (fun x hx => by obtain ⟨p, hp, rfl⟩ := List.mem_map.1 hx; exact hl2 p hp) ls.length
 unfold endsZ
 rw [List.length_map]
 unfold endsL at *
 omega
theorem tail12 {w : World} {e0 n nm : Nat} {f : Int → Option Int} {cs : List (Nat × Value)} {sets sets' : Nat → List S.R} {ps : List (Int × Nat)} {vcl vps : Value} {A : World} {rb k lp nn : Nat} {lo hi : Int} {Q Q' : Exit → Act → World → Prop} (a : Act)
   (h : Sx w e0 n nm f cs sets ps vcl vps A) (he : w.heap.size + 4 ≤ e0) (hrb : A.heap[rb]? = some (.cells #[.int .i32 lo, .int .i32 hi] 140 (0, 0))) (hk : k < cs.length) (hR : some rb ≠ cs[k].2.ownBlock) (hnd : (cs.map (·.1)).Nodup)
   (hs1 : sets' cs[k].1 = sets cs[k].1 ++ [(lo, hi)]) (hs2 : ∀ m, m ≠ cs[k].1 → sets' m = sets m) (hb1 : (sets cs[k].1).length ≤ 1000000) (hb2 : ps.length ≤ 1000000)
   (hsz : a.tmps.size = 82) (h3 : a.tmps.getD 3 undef = .pointer (some ⟨w.heap.size + 1, 0, none⟩)) (h5 : a.tmps.getD 5 undef = .pointer (some ⟨rb, 0, none⟩)) (h7 : a.tmps.getD 7 undef = .int .i64 (k : Int))
   (hQ : ∀ c (a : Act) (d : Nat) v w, Q (.panic c) (a.put (some d) v) w → Q (.panic c) a w) (hQo : ¬ LetsOut Q) (hQ' : ∀ c (a : Act) (d : Nat) v w, Q' (.panic c) (a.put (some d) v) w → Q' (.panic c) a w) (hQo' : ¬ LetsOut Q')
   (hn : ∀ a' A', (Code.region 13 ops13 true).wpIn (Fence.wide.inRound lp) nn Tryz.prog Q' a' A' → Q .normal a' A')
   (hf : ∀ a' A' v' vps', Sx w e0 n nm f (cs.set k (cs[k].1, v')) sets' (ps ++ [(lo, k)]) vcl vps' A' → Step w.heap.size rb A A' → Q' .normal a' A') :
   (Code.region 12 ops12 true).wpIn (Fence.wide.inRound lp) nn Tryz.prog Q a A := by
 refine reg12 (M := (sets cs[k].1).length) (ys := cR (sets cs[k].1)) a A hsz h3 h5 h7 h.st h.bx hrb hR h.rc hk (cC_at cs k hk).2 (h.rs k hk) (by omega) h.le (by omega) hQ hQo ?_
 intro a' A' v' hfr h1 h2 hat hc
 obtain ⟨hx', hst⟩ := h.ranged he hrb hk hR hnd hs1 hs2 h1 h2 hat hc
 refine hn a' A' ?_
 have hrb' := hst.same hrb (fun e => ?_) (fun e => ?_) (.inr rfl)
 rotate_left
 · have := h.st; rw [← e, hrb] at this; cases this
 · obtain ⟨es, c, hm⟩ := h.mp.isMap
   rw [← e, hrb] at hm
   cases hm
 refine reg13 (lo := lo) (hi_ := hi) (k := k) (rb := rb) a' A' (hfr.1.trans hsz) ((hfr.2 3 (by decide)).trans h3) ((hfr.2 5 (by decide)).trans h5) ((hfr.2 7 (by decide)).trans h7) hx'.st hx'.bx hrb' hx'.rp (by omega) hx'.le (by omega) hQ' hQo' ?_
 intro a2 A2 v2 _ h1 h2 hc
 obtain ⟨hx2, hst2⟩ := hx'.pieced he hrb' h1 h2 hc
 exact hf a2 A2 v' v2 hx2 (hst.trans hst2)
set_option maxRecDepth 100000 in
set_option maxHeartbeats 8000000 in
theorem cut_in (sao : Option Addr) (cap : Nat) (ls L : List L3) (hL : ls.take 64 = L) (hcap : ls.length ≤ cap) (hl2 : ∀ p ∈ ls, p.2.2.length ≤ 5000) (w : World) (hrd : RdS w sao ls) :
   CallsIn Fence.wide 9 Tryz.prog 38 #[.slice sao ls.length cap] w fun e W' => e = .returned (.pointer (some ⟨w.heap.size, 0, none⟩)) ∧ ∃ e0, w.heap.size + 4 ≤ e0 ∧ St w e0 L.length (pieces (endsZ L)) W' := by
 refine callsIn_of_wp_marks Tryz.func38 rfl trivial ?_ rfl
 simp only [Tryz.ntmps38, List.size_toArray, List.length_cons, List.length_nil, Nat.reduceAdd, Nat.reduceSub, Array.replicate_succ, Array.replicate_zero, List.push_toArray, List.append_toArray, List.nil_append, List.cons_append]
 have hmm := @run_makeMap Tryz.prog
 gi_wp2
 clear hmm
 have hmin : (min (ls.length : Int) 64) = ((L.length : Nat) : Int) := by rw [← hL, List.length_take]; omega
 have hl : L.length ≤ 64 := by rw [← hL, List.length_take]; omega
 have hmax : (max ((L.length : Nat) : Int) 0) = ((L.length : Nat) : Int) := by omega
 have hl2' : ∀ p ∈ L, p.2.2.length ≤ 5000 := fun p hp => hl2 p (List.mem_of_mem_take (hL ▸ hp))
 have hrd' := hrd.take 64
 rw [hL] at hrd'
 simp only [hmin, hmax, Int.toNat_natCast]
 clear hmin hmax hrd hl2 hL
 gi_wp2_with (refine ⟨trivial, ?_⟩; gi_at_call 69; refine (callsIn_wide.2 (cutsMake_any sao L.length cap _)).mono ?_; rintro e w2 ⟨rfl, rfl⟩)
 obtain ⟨W5, h5⟩ : ∃ W5, ((((w.alloc (.cells #[.int .i64 (L.length : Int), .slice none 0 0, .slice none 0 0] 69)).alloc (.cells #[.pointer (some ⟨w.heap.size, 0, none⟩)] 91)).alloc (.map #[] 0)).alloc (.cells #[.map (some (w.heap.size + 1 + 1))] 135)).alloc (.cells #[.slice sao L.length cap] 93) = W5 := ⟨_, rfl⟩
 rw [h5]
 have hst := fun We => cut_start w L.length cap sao L.length (We := We) h5
 have hz5 : W5.heap.size = w.heap.size + 5 := (hst W5 (Below.refl _ _)).1
 have hb5 : Below w.heap.size w W5 := (by
   obtain ⟨_, ⟨_, _, _, _, hx⟩, _⟩ := hst W5 (Below.refl _ _)
   exact hx.below)
 clear h5
 have hD : w.heap.size + 5 ≤ W5.heap.size := by omega
 clear hz5
 have hz := endsZ_in L hl
 have hzl := endsZ_length L hl hl2'
 have hpi := pieces_in hz
 refine enter_law2 (gf := 98) (lb := #[.pointer (some ⟨w.heap.size + 1 + 1 + 1 + 1, 0, none⟩)]) rfl (enters_of Tryz.func98 (by kernel_rfl) rfl) ?_
 intro r We hr hrec hdef hszE hbE
 have hE : W5.heap.size + 2 ≤ We.heap.size := by omega
 clear hszE
 obtain ⟨-, hst0, hbox⟩ := hst We hbE
 clear hst
 refine (cuts1_in 8 (by omega) (w.heap.size + 1 + 1 + 1 + 1) cap sao L hl hl2' (W5.heap.size + 1)
   (fun pre A => St w We.heap.size L.length pre A ∧ A.heap[W5.heap.size + 1]? = some (.loop r) ∧ A.heap[W5.heap.size]? = some (.deferred (some []))) We
   hbox (hrd'.later (nx hb5 hbE)) ?stable ?round ?start).mono ?_
 case stable =>
   rintro pre A B ⟨⟨cs, vcl, vps, h1, h2⟩, j5, j6⟩ hq
   exact ⟨⟨cs, vcl, vps, h1, h2.quiet (hq.mono (by omega))⟩, hq.same _ _ j5 (.inl (by omega)), hq.same _ _ j6 (.inl (by omega))⟩
 case start => exact ⟨hst0, hrec.out, hdef.out⟩
 case round =>
   clear hst0 hrec hdef hbox hrd'
   rintro pre ⟨⟨lo, hi⟩, m⟩ A ⟨⟨cs, vcl, vps, hms, hx⟩, j5, j6⟩ hpre
   have hin := hpi.2 ((lo, hi), m) (hpre.subset (List.mem_append_right pre (List.mem_singleton.2 rfl)))
   have hpl : pre.length ≤ 1000000 := by
     have := hpre.length_le
     rw [List.length_append] at this
     have := hpi.1
     omega
   have hcl : cs.length ≤ pre.length := by
     have := msOf_length pre
     rw [← hms, List.length_map] at this
     exact this
   simp only at hin
   clear hpi hz hzl hpre hl2'
   refine yield_law2 hr j5 rfl ?_
   simp only [encQ]
   gi_wp2
   have hl1 : W5.heap.size + 1 < A.heap.size := (Array.getElem?_eq_some_iff.1 j5).1
   have q1 : (A.alloc (.cells #[.int .i32 lo, .int .i32 hi] 140)).heap[W5.heap.size + 1]? = some (.loop r) := (Below.heap_alloc _ _ _ hl1).trans j5
   refine ⟨q1, fun rbk => ?_⟩
   obtain ⟨rb, hrbe⟩ : ∃ rb, A.heap.size = rb := ⟨_, rfl⟩
   have q6 : (A.alloc (.cells #[.int .i32 lo, .int .i32 hi] 140)).heap[W5.heap.size]? = some (.deferred (some [])) := (Below.heap_alloc _ _ _ (Array.getElem?_eq_some_iff.1 j6).1).trans j6
   have qx := hx.quiet (quiet_below (e := w.heap.size + 4) (al1 A (.cells #[.int .i32 lo, .int .i32 hi] 140)))
   have hRr : ∀ i (h : i < cs.length), some rb ≠ cs[i].2.ownBlock := fun i h e => by
     have := (World.ownsRow.lt (hx.rs i h) rb e.symm).2
     omega
   have qr := World.alloc_heap_new A (.cells #[.int .i32 lo, .int .i32 hi] 140)
   have qk : Kept We.heap.size A (A.alloc (.cells #[.int .i32 lo, .int .i32 hi] 140)) := kept_below (al1 _ _)
   rw [hrbe] at qr ⊢
   have hne1 : rb ≠ W5.heap.size + 1 := by omega
   have hrbE : We.heap.size ≤ rb := by have := hx.le; omega
   clear j5 j6 hx hl1 hrbe
   generalize A.alloc (.cells #[.int .i32 lo, .int .i32 hi] 140) = A0 at *
   have hne : ∀ k, k ≠ W5.heap.size + 1 → (A0.putObj (W5.heap.size + 1) (.loop rbk)).heap[k]? = A0.heap[k]? := fun k hk => World.putObj_heap_other hk
   have x1 := qx.quiet (quiet_put (e := w.heap.size + 4) q1 (by omega) rfl (.loop rbk))
   have r1 := (hne rb hne1).trans qr
   have k5 : Hid ((A0.putObj (W5.heap.size + 1) (.loop rbk)).heap[W5.heap.size + 1]? = some (.loop rbk)) := World.putObj_heap_same (Array.getElem?_eq_some_iff.1 q1).1
   have k6 : Hid ((A0.putObj (W5.heap.size + 1) (.loop rbk)).heap[W5.heap.size]? = some (.deferred (some []))) := (hne _ (by omega)).trans q6
   have kk : Kept We.heap.size A (A0.putObj (W5.heap.size + 1) (.loop rbk)) := ⟨Nat.le_trans qk.size (by simp), fun k o hk he ho => by rw [hne k (by omega)]; exact qk.same k o hk he ho⟩
   clear q1 q6 qx qr qk hne hne1
   generalize A0.putObj (W5.heap.size + 1) (.loop rbk) = A1 at *
   have FIN : Hid (∀ (cs' : List (Nat × Value)) (vcl' vps' : Value) (A9 : World), cs'.map (·.1) = msOf (pre ++ [((lo, hi), m)]) → Sx w We.heap.size L.length cs'.length (fM (msOf (pre ++ [((lo, hi), m)]))) cs' (setsOf (pre ++ [((lo, hi), m)])) (psOf (msOf (pre ++ [((lo, hi), m)])) (pre ++ [((lo, hi), m)])) vcl' vps' A9 → Step w.heap.size rb A1 A9 →
       A9.heap[W5.heap.size + 1]? = some (.loop rbk) ∧ (St w We.heap.size L.length (pre ++ [((lo, hi), m)]) (A9.putObj (W5.heap.size + 1) (.loop r)) ∧ (A9.putObj (W5.heap.size + 1) (.loop r)).heap[W5.heap.size + 1]? = some (.loop r) ∧ (A9.putObj (W5.heap.size + 1) (.loop r)).heap[W5.heap.size]? = some (.deferred (some []))) ∧ Kept We.heap.size A (A9.putObj (W5.heap.size + 1) (.loop r))) := hide (by
     intro cs' vcl' vps' A9 e1 x9 s9
     have l9 := s9.same k5.out (by omega) (by omega) (.inl rfl)
     have d9 := s9.same k6.out (by omega) (by omega) (.inl rfl)
     have hne : ∀ k, k ≠ W5.heap.size + 1 → (A9.putObj (W5.heap.size + 1) (.loop r)).heap[k]? = A9.heap[k]? := fun k hk => World.putObj_heap_other hk
     have kk9 := kk.trans (s9.kept (e := We.heap.size) (by omega))
     refine ⟨l9, ⟨⟨cs', vcl', vps', e1, x9.quiet (quiet_put l9 (by omega) rfl _)⟩, World.putObj_heap_same (Array.getElem?_eq_some_iff.1 l9).1, (hne _ (by omega)).trans d9⟩, ⟨Nat.le_trans kk9.size (by simp), fun k o hk he ho => by rw [hne k (by omega)]; exact kk9.same k o hk he ho⟩⟩)
   clear k5 k6 kk
   have c4 : A1.cell? ⟨w.heap.size + 1 + 1 + 1, 0, none⟩ = some (.map (some (w.heap.size + 2))) := cell_at x1.mb rfl
   have hlk := x1.mp.lookOk Tryz.underlying141 Tryz.underlying135 Tryz.underlying3 (Tryz.zeroValue3 _) (x := (m : Int)) (wf64 hin.2.2.2)
   rw [fM_at] at hlk
   have hnd : (cs.map (·.1)).Nodup := by rw [hms]; exact msOf_nodup pre
   have HPS := hide (psOf_snoc pre ((lo, hi), m))
   have HSS := hide (setsOf_snoc pre ((lo, hi), m))
   have hsl : ∀ m', (setsOf pre m').length ≤ 1000000 := fun m' => by
     unfold setsOf
     rw [List.length_map]
     exact Nat.le_trans (List.length_filter_le _ _) hpl
   have hpsl : (psOf (msOf pre) pre).length ≤ 1000000 := by unfold psOf; rw [List.length_map]; exact hpl
   by_cases hm : m ∈ msOf pre
   · rw [if_pos hm] at hlk
     simp only [Option.getD_some, Option.isSome_some] at hlk
     have HM : Hid (msOf (pre ++ [((lo, hi), m)]) = msOf pre) := hide (by rw [msOf_snoc, if_pos hm])
     obtain ⟨k, hke⟩ : ∃ k, (msOf pre).idxOf m = k := ⟨_, rfl⟩
     have hk1 : k < (msOf pre).length := hke ▸ List.idxOf_lt_length_of_mem hm
     have hk : k < cs.length := by rw [← hms, List.length_map] at hk1; exact hk1
     have hck : cs[k].1 = m := by
       have h1 : (msOf pre)[k] = m := by subst hke; exact List.getElem_idxOf hk1
       have h2 : (cs.map (·.1))[k]'(by rw [hms]; exact hk1) = m := by simp only [hms]; exact h1
       simpa using h2
     rw [HM.out, hke] at HPS
     rw [hke] at hlk
     have HK := hide hke
     clear hke hk1
     gi_wp2
     rename_i Q1 K1 hK1
     refine tail12 (w := w) (e0 := We.heap.size) (k := k) (rb := rb) (lo := lo) (hi := hi) (sets' := setsOf (pre ++ [((lo, hi), m)])) (Q' := Exit.inBlock 1 Q1) _ x1 (by omega) r1 hk (hRr k hk) hnd ?_ ?_ (hsl _) hpsl rfl rfl rfl rfl (fun _ _ _ _ _ h => h) (by rintro ⟨_, _, h⟩; exact h) (fun _ _ _ _ _ h => h) (by rintro ⟨_, _, h⟩; exact h) hK1 ?_
     · rw [hck, HSS.out, if_pos rfl]
     · intro m' hm'
       rw [hck] at hm'
       rw [HSS.out, if_neg hm']
     · intro a' A' v' vps' x9 s9
       refine FIN.out (cs.set k (cs[k].1, v')) vcl vps' A' ?_ ?_ s9
       · rw [HM.out, List.map_set, ← hms]
         simp only
         rw [show cs[k].1 = (cs.map (·.1))[k]'(by simpa using hk) by simp, List.set_getElem_self]
       · rw [HM.out, HPS.out, List.length_set]
         exact x9
   · rw [if_neg hm] at hlk
     simp only [Option.getD_none, Option.isSome_none] at hlk
     have HM : Hid (msOf (pre ++ [((lo, hi), m)]) = msOf pre ++ [m]) := hide (by rw [msOf_snoc, if_neg hm])
     have HPS2 : Hid (psOf (msOf (pre ++ [((lo, hi), m)])) (pre ++ [((lo, hi), m)]) = psOf (msOf pre) pre ++ [(lo, cs.length)]) := hide (by
       rw [HPS.out, HM.out]
       simp only
       rw [idx_new hm, ← hms, List.length_map])
     have hs0 : setsOf pre m = [] := by
       unfold setsOf
       rw [List.filter_eq_nil_iff.2, List.map_nil]
       intro p hp he
       exact hm ((msOf_mem pre m).2 ⟨p, hp, by simpa using he⟩)
     obtain ⟨ao, c, hvcl⟩ : ∃ ao c, vcl = .slice ao cs.length c := by
       obtain ⟨_, ⟨h1, h2⟩ | ⟨g, cap, _, h1, _⟩⟩ := x1.rc
       · exact ⟨none, 0, by rw [h1, h2]⟩
       · exact ⟨_, _, h1⟩
     have c3 : A1.cell? ⟨w.heap.size + 1, 0, none⟩ = some (.pointer (some ⟨w.heap.size, 0, none⟩)) := cell_at x1.bx rfl
     have c51 : A1.cell? ⟨w.heap.size, 1, none⟩ = some (.slice ao cs.length c) := cell_at x1.st (by rw [hvcl]; rfl)
     obtain ⟨A2, hup, hmp2, hg2, hs2⟩ := Mp.store (w := A1) x1.mp Tryz.underlying141 Tryz.underlying135 Tryz.underlying3 (by unfold maxLen; omega) (x := (m : Int)) (v := (cs.length : Int)) (wf64 hin.2.2.2) (by simp [Lit.wf, IntKind.min, IntKind.max, IntKind.bits, IntKind.signed]; omega)
     rw [show cs.length = (msOf pre).length by rw [← hms, List.length_map]] at hmp2
     rw [fM_snoc _ _ hm] at hmp2
     obtain ⟨x2, s2⟩ := x1.mapped (rb := rb) (by omega) hmp2 hg2
     have r2 := s2.same r1 (by omega) (by omega) (.inr rfl)
     clear hmp2 hg2 hs2
     gi_wp2
     rename_i Q1 K1 hK1
     refine reg11 (S := w.heap.size) (e0 := We.heap.size) (n := L.length) (m := m) (N := cs.length) (xs := cC cs) _ A2 rfl rfl rfl x2.st x2.bx x2.rc (by omega) x2.le (by omega) (fun _ _ _ _ _ h => h) (by rintro ⟨_, _, h⟩; exact h) ?_
     intro a' A3 vcl' hfr g1 g2 g3
     obtain ⟨x3, s3⟩ := x2.classed (by omega) r2 hs0 g1 g2 g3
     have r3 := s3.same r2 (by omega) (by omega) (.inr rfl)
     refine hK1 _ _ (wpIn_seq ?_)
     have hk : cs.length < (cs ++ [(m, Value.slice none 0 0)]).length := by simp
     have hck : (cs ++ [(m, Value.slice none 0 0)])[cs.length] = (m, Value.slice none 0 0) := by simp
     have hnd3 : ((cs ++ [(m, Value.slice none 0 0)]).map (·.1)).Nodup := by
       rw [List.map_append, hms]
       have := msOf_nodup (pre ++ [((lo, hi), m)])
       rw [HM.out] at this
       exact this
     refine tail12 (w := w) (e0 := We.heap.size) (k := cs.length) (rb := rb) (lo := lo) (hi := hi) (sets' := setsOf (pre ++ [((lo, hi), m)])) (Q' := Exit.inBlock 1 Q1) _ x3 (by omega) r3 hk (by rw [hck]; simp [Value.ownBlock]) hnd3 ?_ ?_ (hsl _) hpsl (hfr.1.trans rfl) ((hfr.2 3 (by decide)).trans rfl) ((hfr.2 5 (by decide)).trans rfl) ((hfr.2 7 (by decide)).trans rfl) (fun _ _ _ _ _ h => h) (by rintro ⟨_, _, h⟩; exact h) (fun _ _ _ _ _ h => h) (by rintro ⟨_, _, h⟩; exact h) (fun _ _ h => h) ?_
     · rw [hck, HSS.out, if_pos rfl]
     · intro m' hm'
       rw [hck] at hm'
       rw [HSS.out, if_neg hm']
     · intro a2 A' v' vps' x9 s9
       refine FIN.out ((cs ++ [(m, Value.slice none 0 0)]).set cs.length ((cs ++ [(m, Value.slice none 0 0)])[cs.length].1, v')) vcl' vps' A' ?_ ?_ (s2.trans (s3.trans s9))
       · rw [HM.out, hck, ← hms]
         simp
       · rw [HPS2.out, HM.out, List.length_set]
         rw [show (cs ++ [(m, Value.slice none 0 0)]).length = (msOf pre).length + 1 by rw [← hms]; simp]
         exact x9
 · rintro e W9 ⟨⟨v, rfl⟩, hst9, j5, j6⟩
   refine ⟨⟨v, rfl⟩, j5, fun r' => ?_⟩
   obtain ⟨cs, vcl, vps, hms, hx⟩ := hst9
   have hne : ∀ k, k ≠ W5.heap.size + 1 → (W9.putObj (W5.heap.size + 1) (.loop r')).heap[k]? = W9.heap[k]? := fun k hk => World.putObj_heap_other hk
   have x1 := hx.quiet (quiet_put (e := w.heap.size + 4) j5 (by omega) rfl (.loop r'))
   have k6 : Hid ((W9.putObj (W5.heap.size + 1) (.loop r')).heap[W5.heap.size]? = some (.deferred (some []))) := (hne _ (by omega)).trans j6
   clear hx j5 j6 hne
   generalize W9.putObj (W5.heap.size + 1) (.loop r') = X at *
   have c3 : X.cell? ⟨w.heap.size + 1, 0, none⟩ = some (.pointer (some ⟨w.heap.size, 0, none⟩)) := cell_at x1.bx rfl
   gi_wp2
   refine ⟨by simp, .inl ⟨_, _, rfl, run_takeDeferred k6.out, ?_⟩⟩
   exact ⟨_, results_tmp rfl _ _ _, rfl, We.heap.size, by omega, cs, vcl, vps, hms, x1.quiet (quiet_put k6.out (by omega) rfl _)⟩
theorem cut_any (sao : Option Addr) (cap : Nat) (ls : List L3) (hcap : ls.length ≤ cap) (hl2 : ∀ p ∈ ls, p.2.2.length ≤ 5000) (w : World) (hrd : RdS w sao ls) :
   Calls Tryz.prog 38 #[.slice sao ls.length cap] w fun e W' => e = .returned (.pointer (some ⟨w.heap.size, 0, none⟩)) ∧ ∃ e0, w.heap.size + 4 ≤ e0 ∧ St w e0 (ls.take 64).length (pieces (endsZ (ls.take 64))) W' :=
 callsIn_wide.1 (cut_in sao cap ls _ rfl hcap hl2 w hrd)
end Go.Proofs.YtgngaldoemopjaaGreatDoor.U
