/- MatchWord. -/
import Derived.Test.YteaaijhppmkfeaaGreatDoorTWda
namespace Go.Proofs.YteaaijhppmkfeaaGreatDoor
section
open E (Ps Rx T rxOf Vp)
def tC (c : Int) : T := .mk 1 0 [(c, c)] [] []
def tN : T := .mk 3 0 [] [] []
def wS (t : T) (c : Int) : T := .mk 4 0 [] [] [t, tC c]
def wT (a : List Int) : T := a.foldl wS tN
theorem wT_nil : wT [] = tN := rfl
theorem wT_snoc (a : List Int) (c : Int) : wT (a ++ [c]) = wS (wT a) c := by unfold wT; rw [List.foldl_append]; rfl
theorem pre_wS (t : T) (c : Int) : E.pre (wS t c) (wS t c) = (wS t c, wS t c) :: (E.pre t t ++ [(tC c, tC c)]) := by
 rw [E.pre_eq]
 show _ :: E.preK [t, tC c] [t, tC c] = _
 rw [E.preK_cons, E.preK_cons, E.preK_nil, List.append_nil, E.pre_eq (tC c)]
 show _ :: (_ ++ (_ :: E.preK [] [])) = _
 rw [E.preK_nil]
theorem pre_tN : E.pre tN tN = [(tN, tN)] := by
 rw [E.pre_eq]
 show _ :: E.preK [] [] = _
 rw [E.preK_nil]
theorem wT_len : ∀ (n : Nat) (a : List Int), a.length = n → (E.pre (wT a) (wT a)).length = 1 + 2 * n
 | 0, a, h => by
   rw [List.eq_nil_of_length_eq_zero h, wT_nil, pre_tN]
   rfl
 | n + 1, a, h => by
   obtain ⟨b, c, rfl⟩ : ∃ b c, a = b ++ [c] := ⟨a.dropLast, a.getLast (by rintro rfl; cases h), (List.dropLast_concat_getLast _).symm⟩
   have hb : b.length = n := by simpa using h
   rw [wT_snoc, pre_wS]
   simp [wT_len n b hb]
   omega
theorem wT_mem : ∀ (n : Nat) (a : List Int), a.length = n → ∀ p ∈ E.pre (wT a) (wT a), p = (tN, tN) ∨ (∃ c, c ∈ a ∧ p = (tC c, tC c)) ∨ ∃ t c, p = (wS t c, wS t c)
 | 0, a, h, p, hp => by
   rw [List.eq_nil_of_length_eq_zero h, wT_nil, pre_tN] at hp
   exact .inl (by simpa using hp)
 | n + 1, a, h, p, hp => by
   obtain ⟨b, c, rfl⟩ : ∃ b c, a = b ++ [c] := ⟨a.dropLast, a.getLast (by rintro rfl; cases h), (List.dropLast_concat_getLast _).symm⟩
   have hb : b.length = n := by simpa using h
   rw [wT_snoc, pre_wS, List.mem_cons, List.mem_append, List.mem_singleton] at hp
   rcases hp with h1 | h1 | h1
   · exact .inr (.inr ⟨_, _, h1⟩)
   · rcases wT_mem n b hb p h1 with h2 | ⟨c', h2, h3⟩ | h2
     · exact .inl h2
     · exact .inr (.inl ⟨c', List.mem_append_left _ h2, h3⟩)
     · exact .inr (.inr h2)
   · exact .inr (.inl ⟨c, by simp, h1⟩)
theorem wT_nodeB (a : List Int) (ha : ∀ c ∈ a, -2147483648 ≤ c ∧ c ≤ 2147483647) : ∀ p ∈ E.pre (wT a) (wT a), E.NodeB p.1 := by
 intro p hp
 rcases wT_mem _ a rfl p hp with rfl | ⟨c, hc, rfl⟩ | ⟨t, c, rfl⟩
 · simp [E.NodeB, tN, T.set, T.name, T.kids]
 · have := ha c hc
   simp [E.NodeB, tC, T.set, T.name, T.kids, this]
 · simp [E.NodeB, wS, T.set, T.name, T.kids]
theorem wT_plain (a : List Int) (hl : a.length ≤ 20) (ha : ∀ c ∈ a, 0 ≤ c ∧ c ≤ 1114111) : E.PlainP (wT a) := by
 refine ⟨⟨by rw [wT_len _ a rfl]; omega, fun p hp => ?_⟩, ?_⟩
 · rcases wT_mem _ a rfl p hp with rfl | ⟨c, hc, rfl⟩ | ⟨t, c, rfl⟩
   · exact ⟨rfl, .inr (.inr ⟨by decide, by decide, rfl, rfl⟩)⟩
   · exact ⟨rfl, .inl ⟨rfl, rfl, by show 1 ≤ 200; decide, U.S.canon_one (by have := ha c hc; exact (U.S.good_iff _).2 ⟨this.1, Int.le_refl _, this.2⟩)⟩⟩
   · exact ⟨rfl, .inr (.inr ⟨by show (3 : Int) ≤ 4; decide, by show (4 : Int) ≤ 8; decide, rfl, rfl⟩)⟩
 · unfold E.vnk
   rw [List.filter_eq_nil_iff.2, List.map_nil]
   intro p hp
   rcases wT_mem _ a rfl p hp with rfl | ⟨c, hc, rfl⟩ | ⟨t, c, rfl⟩ <;> simp [tN, tC, wS, T.kind]
theorem inS_one (c r : Int) (h0 : 0 ≤ c) (h1 : c ≤ 1114111) : E.inS [(c, c)] r = true ↔ r = c := by
 have hg : U.S.good (c, c) = true := (U.S.good_iff _).2 ⟨h0, Int.le_refl _, h1⟩
 unfold E.inS
 rw [U.S.hB_iff]
 unfold U.S.hs U.S.goods
 rw [List.filter_cons_of_pos hg, List.filter_nil, U.S.has_cons]
 constructor
 · rintro (h | h)
   · exact Int.le_antisymm h.2 h.1
   · exact absurd h (U.S.has_nil r)
 · rintro rfl
   exact .inl ⟨Int.le_refl _, Int.le_refl _⟩
theorem wT_L : ∀ (n : Nat) (a u : List Int), a.length = n → (∀ c ∈ a, 0 ≤ c ∧ c ≤ 1114111) → ((rxOf (wT a)).L u ↔ u = a)
 | 0, a, u, h, _ => by
   rw [List.eq_nil_of_length_eq_zero h, wT_nil]
   simp [tN, rxOf, Rx.L]
 | n + 1, a, u, h, ha => by
   obtain ⟨b, c, rfl⟩ : ∃ b c, a = b ++ [c] := ⟨a.dropLast, a.getLast (by rintro rfl; cases h), (List.dropLast_concat_getLast _).symm⟩
   have hb : b.length = n := by simpa using h
   have hc := ha c (by simp)
   have hb' : ∀ c ∈ b, 0 ≤ c ∧ c ≤ 1114111 := fun x hx => ha x (List.mem_append_left _ hx)
   rw [wT_snoc, wS, rxOf, tC, rxOf, Rx.L, if_pos rfl]
   constructor
   · rintro ⟨x, y, rfl, hx, hy⟩
     rw [(wT_L n b x hb hb').1 hx]
     rw [Rx.L, if_pos rfl] at hy
     obtain ⟨r, rfl, hr⟩ := hy
     rw [(inS_one c r hc.1 hc.2).1 hr]
   · rintro rfl
     refine ⟨b, [c], rfl, (wT_L n b b hb hb').2 rfl, ?_⟩
     rw [Rx.L, if_pos rfl]
     exact ⟨c, rfl, (inS_one c c hc.1 hc.2).2 rfl⟩
theorem wT_all (a u : List Int) (ha : ∀ c ∈ a, 0 ≤ c ∧ c ≤ 1114111) : (rxOf (wT a)).L u ↔ u = a := wT_L _ a u rfl ha
end
section
open Go.RowKit Go.Shelf
open E (Ps Rx T rxOf Vp)
attribute [local go_sem] Oper.semAt_some
set_option maxRecDepth 100000 in
set_option maxHeartbeats 4000000 in
theorem word_any (w : World) (ht : Tabs w) (ao bo : Option Addr) (ca cb : Nat) (xs ys : List Int) (hx : RdC32 w ao xs) (hy : RdC32 w bo ys) (hxl : xs.length ≤ 9223372036854775807) (hyl : ys.length ≤ 9223372036854775807) (hxb : ∀ c ∈ xs, -2147483648 ≤ c ∧ c ≤ 2147483647) : Calls Tryz.prog 11 #[.slice ao xs.length ca, .slice bo ys.length cb] w fun e w' => e = .returned (.bool true) ∧ Below w.heap.size w w' := by
 have hk := known8_any w ht
 go_enter Tryz.func11, Tryz.ntmps11
 go_wp2_with fail
 refine hk.mono ?_
 rintro e W1 ⟨rfl, hb1⟩
 clear hk
 by_cases h1 : xs.length ≤ 20
 case neg =>
   have h1' : (20 : Int) < (xs.length : Int) := by omega
   go_wp2
   go_ret
   exact ⟨rfl, hb1⟩
 have h1' : ¬ (20 : Int) < (xs.length : Int) := by omega
 by_cases h2 : ys.length ≤ 20
 case neg =>
   have h2' : (20 : Int) < (ys.length : Int) := by omega
   go_wp2
   go_ret
   exact ⟨rfl, hb1⟩
 have h2' : ¬ (20 : Int) < (ys.length : Int) := by omega
 go_wp2
 have a0 := al1 W1 (.cells #[.int .i64 3, .int .i64 0, .slice none 0 0, .string ⟨#[]⟩, .slice none 0 0] 26)
 have n0 := heap_alloc_new W1 (.cells #[.int .i64 3, .int .i64 0, .slice none 0 0, .string ⟨#[]⟩, .slice none 0 0] 26)
 have bA := nx hb1 a0
 have sA := hb1.size
 go_loopw [6] (fun u wr => ∃ i : Nat, u = .int .i64 (i : Int) ∧ i ≤ xs.length ∧ (∃ d : ND, wr.heap[W1.heap.size]? = some (.cells #[.int .i64 d.k, .int .i64 d.a, .slice d.sp d.sl d.sc, .string d.n, .slice d.kp d.kl d.kc] 26) ∧ Hid (TR wr (fun b => b ≠ W1.heap.size) (wT (xs.take i)) d.v)) ∧ Hid (∀ c ∈ xs.take i, 0 ≤ c ∧ c ≤ 1114111) ∧ Below w.heap.size w wr) (fun u _ => xs.length - (intOf u).toNat)
 case atStart =>
   refine ⟨0, rfl, Nat.zero_le _, ⟨⟨3, 0, none, 0, 0, ⟨#[]⟩, none, 0, 0⟩, n0, hide ?_⟩, hide (by simp), bA⟩
   rw [List.take_zero, wT_nil, tN, TR]
   exact ⟨none, 0, none, 0, rfl, U.rdr_nil _ _, Nat.le_refl _, by rw [KR]; trivial⟩
 case round =>
   obtain ⟨i, rfl, hi, ⟨d, hd, HTr⟩, HC, hB⟩ := hrel
   clear a0 n0 bA
   have hsz : W1.heap.size < wr.heap.size := (Array.getElem?_eq_some_iff.1 hd).1
   by_cases hlt : i < xs.length
   · obtain ⟨b, off, rfl, hcx⟩ := (hx.later hB) i hlt
     have hxb1 := hxb xs[i] (List.getElem_mem hlt)
     obtain ⟨c, hc⟩ : ∃ c, xs[i] = c := ⟨_, rfl⟩
     have HTK : Hid (xs.take (i + 1) = xs.take i ++ [c]) := hide (by rw [List.take_succ_eq_append_getElem hlt, hc])
     rw [hc] at hcx hxb1
     clear hc
     have hbl : b < wr.heap.size := U.cell_lt hcx
     have hcy : wr.cell? ⟨b, off + i * 1, none⟩ = some (.int .i32 c) := by rw [Nat.mul_one]; exact hcx
     by_cases hc0 : c < 0
     · go_wp2
       go_ret
       exact ⟨rfl, hB⟩
     by_cases hc1 : 1114111 < c
     · go_wp2
       go_ret
       exact ⟨rfl, hB⟩
     go_wp2_with fail
     refine Rst.start 13 (fun w' => Below wr.heap.size wr.drew w') (by kernel_rfl) ?_
     refine Rst.take (fun _ _ _ _ _ h => h) 0 _ 38 (.agg #[.int .i64 d.k, .int .i64 d.a, .slice d.sp d.sl d.sc, .string d.n, .slice d.kp d.kl d.kc]) rfl (by kernel_rfl) rfl (by kernel_rfl) (by kernel_rfl) (Below.refl _ _) (fun wx hb => Reg.ldN rfl rfl ((hb.block _ hsz).trans hd)) ?_
     refine Rst.take (fun _ _ _ _ _ h => h) 1 _ 39 (.slice (some ⟨b, off, none⟩) xs.length ca) rfl (by kernel_rfl) rfl (by kernel_rfl) (by kernel_rfl) (Below.refl _ _) (fun wx hb => by kernel_rfl) ?_
     refine Rst.take (fun _ _ _ _ _ h => h) 2 _ 40 (.int .i64 (i : Int)) rfl (by kernel_rfl) rfl (by kernel_rfl) (by kernel_rfl) (Below.refl _ _) (fun wx hb => by kernel_rfl) ?_
     refine Rst.take (fun _ _ _ _ _ h => h) 3 _ 41 (.pointer (some ⟨b, off + i * 1, none⟩)) rfl (by kernel_rfl) rfl (by kernel_rfl) (by kernel_rfl) (Below.refl _ _) (fun wx hb => U.Reg.ix (q := .i64) (cap := ca) rfl (by kernel_rfl) (by kernel_rfl) hlt Tryz.underlying44 (elemSize44 wx)) ?_
     refine Rst.take (fun _ _ _ _ _ h => h) 4 _ 42 (.int .i32 c) rfl (by kernel_rfl) rfl (by kernel_rfl) (by kernel_rfl) (Below.refl _ _) (fun wx hb => Reg.ld1 (a := ⟨b, off + i * 1, none⟩) rfl (by kernel_rfl) ((hb.cell (p := ⟨b, off + i * 1, none⟩) hbl).trans hcy) (Tryz.isAgg21 _)) ?_
     refine Rst.take (fun _ _ _ _ _ h => h) 5 _ 43 (.slice (some ⟨b, off, none⟩) xs.length ca) rfl (by kernel_rfl) rfl (by kernel_rfl) (by kernel_rfl) (Below.refl _ _) (fun wx hb => by kernel_rfl) ?_
     refine Rst.take (fun _ _ _ _ _ h => h) 6 _ 44 (.int .i64 (i : Int)) rfl (by kernel_rfl) rfl (by kernel_rfl) (by kernel_rfl) (Below.refl _ _) (fun wx hb => by kernel_rfl) ?_
     refine Rst.take (fun _ _ _ _ _ h => h) 7 _ 45 (.pointer (some ⟨b, off + i * 1, none⟩)) rfl (by kernel_rfl) rfl (by kernel_rfl) (by kernel_rfl) (Below.refl _ _) (fun wx hb => U.Reg.ix (q := .i64) (cap := ca) rfl (by kernel_rfl) (by kernel_rfl) hlt Tryz.underlying44 (elemSize44 wx)) ?_
     refine Rst.take (fun _ _ _ _ _ h => h) 8 _ 46 (.int .i32 c) rfl (by kernel_rfl) rfl (by kernel_rfl) (by kernel_rfl) (Below.refl _ _) (fun wx hb => Reg.ld1 (a := ⟨b, off + i * 1, none⟩) rfl (by kernel_rfl) ((hb.cell (p := ⟨b, off + i * 1, none⟩) hbl).trans hcy) (Tryz.isAgg21 _)) ?_
     refine Rst.take (fun _ _ _ _ _ h => h) 9 _ 47 (.agg #[.int .i32 c, .int .i32 c]) rfl (by kernel_rfl) rfl (by kernel_rfl) (by kernel_rfl) (Below.refl _ _) (fun wx hb => by kernel_rfl) ?_
     have g1 := al1 wr.drew (.cells #[.int .i32 c, .int .i32 c] 69)
     refine Rst.only 10 _ 48 rfl (by kernel_rfl) rfl (by kernel_rfl) (by kernel_rfl) ⟨.slice (some ⟨wr.heap.size, 0, none⟩) 1 1, wr.drew.alloc (.cells #[.int .i32 c, .int .i32 c] 69), bs1W rfl rfl, g1, ?_⟩
     refine Rst.only 11 _ 49 rfl (by kernel_rfl) rfl (by kernel_rfl) (by kernel_rfl) ⟨.agg #[.int .i64 1, .int .i64 0, .slice (some ⟨wr.heap.size, 0, none⟩) 1 1, .string ⟨#[]⟩, .slice none 0 0], wr.drew.alloc (.cells #[.int .i32 c, .int .i32 c] 69), by kernel_rfl, g1, ?_⟩
     have gn := heap_alloc_new wr.drew (.cells #[.int .i32 c, .int .i32 c] 69)
     have t1 : TR (wr.drew.alloc (.cells #[.int .i32 c, .int .i32 c] 69)) (fun b => b ≠ W1.heap.size) (wT (xs.take i)) d.v := TR.later (fun k hk => g1.block k hk) _ (TR.later (w := wr) (W := wr.drew) (fun k _ => rfl) _ HTr.out)
     have t2 : TR (wr.drew.alloc (.cells #[.int .i32 c, .int .i32 c] 69)) (fun b => b ≠ W1.heap.size) (tC c) (⟨1, 0, some ⟨wr.heap.size, 0, none⟩, 1, 1, ⟨#[]⟩, none, 0, 0⟩ : ND).v := by
       refine tr_set 0 1 (S := [(c, c)]) (fun j hj => ?_)
       have hj0 : j = 0 := by simpa using hj
       subst hj0
       have e0 : (wr.drew.alloc (.cells #[.int .i32 c, .int .i32 c] 69)).heap[wr.heap.size]? = some (.cells #[.int .i32 c, .int .i32 c] 69) := gn
       have qq : ∀ (j : Nat) (u : Value), (#[Value.int .i32 c, .int .i32 c] : Array Value)[j]? = some u → (wr.drew.alloc (.cells #[.int .i32 c, .int .i32 c] 69)).cell? ⟨wr.heap.size, j, none⟩ = some u := fun j u hu => by
         unfold World.cell?
         rw [show (⟨wr.heap.size, j, none⟩ : Addr).block = wr.heap.size from rfl, e0]
         exact hu
       exact ⟨wr.heap.size, 0, rfl, qq 0 _ rfl, qq 1 _ rfl⟩
     have hsG : (wr.drew.alloc (.cells #[.int .i32 c, .int .i32 c] 69)).heap.size = wr.heap.size + 1 := by simp
     have hcl := two_ok (fun b => b ≠ W1.heap.size) 4 d _ _ _ _ t1 t2 (fun b hb => by rw [hsG] at hb; omega)
     unfold ND.v at hcl
     refine Rst.call 12 _ 50 44 _ _ #[.int .i64 4, .agg #[.int .i64 d.k, .int .i64 d.a, .slice d.sp d.sl d.sc, .string d.n, .slice d.kp d.kl d.kc], .agg #[.int .i64 1, .int .i64 0, .slice (some ⟨wr.heap.size, 0, none⟩) 1 1, .string ⟨#[]⟩, .slice none 0 0]] rfl (by kernel_rfl) rfl (by kernel_rfl) (by kernel_rfl) rfl (by kernel_rfl) (by kernel_rfl) hcl ?_
     rintro e W4 ⟨⟨de, rfl, ht4⟩, hb4⟩
     have b4 := nx g1 hb4
     refine ⟨_, rfl, b4, ?_⟩
     have hd4 := (b4.block W1.heap.size hsz).trans hd
     refine Rst.last _ rfl (by kernel_rfl) rfl (by kernel_rfl) (by kernel_rfl) ⟨_, Reg.stN rfl rfl rfl hd4, ?_⟩
     refine Rst.done (by kernel_rfl) ?_
     simp only [Reg.ov, Act.put, List.setIfInBounds_toArray, List.set_cons_succ, List.set_cons_zero]
     have hp4 := putN_box (v0 := .int .i64 de.k) (v1 := .int .i64 de.a) (v2 := .slice de.sp de.sl de.sc) (v3 := .string de.n) (v4 := .slice de.kp de.kl de.kc) hd4
     have hT4 := hide (TR.but (W := putN W4 W1.heap.size (.int .i64 de.k) (.int .i64 de.a) (.slice de.sp de.sl de.sc) (.string de.n) (.slice de.kp de.kl de.kc)) (x := W1.heap.size) (fun k _ hk => putN_other hk) (noI_node hd4) (fun h => h rfl) _ ht4)
     have hB4 : Below w.heap.size w (putN W4 W1.heap.size (.int .i64 de.k) (.int .i64 de.a) (.slice de.sp de.sl de.sc) (.string de.n) (.slice de.kp de.kl de.kc)) := putN_below (hB.drew.trans (b4.mono (show w.heap.size ≤ wr.heap.size by omega))) sA
     obtain ⟨W5, hW5⟩ : ∃ W5, putN W4 W1.heap.size (.int .i64 de.k) (.int .i64 de.a) (.slice de.sp de.sl de.sc) (.string de.n) (.slice de.kp de.kl de.kc) = W5 := ⟨_, rfl⟩
     rw [hW5] at hp4 hT4 hB4 ⊢
     have HC2 : Hid (∀ x ∈ xs.take (i + 1), 0 ≤ x ∧ x ≤ 1114111) := hide (by
       rw [HTK.out]
       intro x hxm
       rcases List.mem_append.1 hxm with h | h
       · exact HC.out x h
       · rw [List.mem_singleton.1 h]; omega)
     have hT5 : Hid (TR W5 (fun b => b ≠ W1.heap.size) (wT (xs.take (i + 1))) de.v) := hide (by rw [HTK.out, wT_snoc]; exact hT4.out)
     clear hW5 hcl t1 t2 g1 gn ht4 hb4 b4 hd4 hT4 hd hcx hcy
     go_wp2
     exact ⟨⟨i + 1, by simp, by omega, ⟨de, hp4, hT5⟩, HC2, hB4⟩, by simp [intOf]; omega⟩
   · have hie : i = xs.length := by omega
     subst hie
     rw [List.take_length] at HTr HC
     have HT : Hid (TR wr (fun _ => True) (wT xs) d.v) := hide (TR.mono (fun _ _ _ => trivial) _ HTr.out)
     clear HTr
     obtain ⟨Wr, hWr⟩ : ∃ Wr, wr = Wr := ⟨_, rfl⟩
     rw [hWr] at hd HT hB hsz ⊢
     clear hWr
     have hBs : w.heap.size ≤ Wr.heap.size := hB.size
     have hps : (E.pre (wT xs) (wT xs)).length ≤ 1000000 := by rw [wT_len _ xs rfl]; omega
     have hnb := wT_nodeB xs hxb
     have hpl := wT_plain xs h1 HC.out
     have hal := fun u => wT_all xs u HC.out
     go_wp2
     go_loopw [7, 8] (fun p u wv => ∃ (q : Bool) (j : Nat), p = .bool q ∧ u = .int .i64 (j : Int) ∧ j ≤ xs.length ∧ Hid (q = true ↔ (xs.length = ys.length ∧ xs.take j = ys.take j)) ∧ Below Wr.heap.size Wr wv) (fun p u _ => xs.length - (intOf u).toNat)
     case atStart => exact ⟨_, 0, rfl, rfl, Nat.zero_le _, hide (by simp; omega), Below.refl _ _⟩
     case round =>
       obtain ⟨q, j, rfl, rfl, hj, HQ, hBz⟩ := hrel
       cases q with
       | true =>
         have hq := HQ.out.1 rfl
         have hle := hq.1
         by_cases hlt2 : j < xs.length
         · obtain ⟨b, off, hbo, hc1⟩ := ((hx.later hB).later hBz) j hlt2
           obtain ⟨b', off', hbo', hc2⟩ := ((hy.later hB).later hBz) j (by omega)
           subst hbo hbo'
           obtain ⟨c1, e1⟩ : ∃ c1, xs[j] = c1 := ⟨_, rfl⟩
           obtain ⟨c2, e2⟩ : ∃ c2, ys[j]'(by omega) = c2 := ⟨_, rfl⟩
           have HQ2 : Hid ((c1 == c2) = true ↔ (xs.length = ys.length ∧ xs.take (j + 1) = ys.take (j + 1))) := hide (by
             rw [List.take_succ_eq_append_getElem hlt2, List.take_succ_eq_append_getElem (show j < ys.length by omega), hq.2, e1, e2]
             simp [hle])
           rw [e1] at hc1
           rw [e2] at hc2
           have HLE := hide hle
           clear e1 e2 HQ hq hle
           have hj1 : j < ys.length := by have := HLE.out; omega
           go_wp2
           go_quiet (fail)
           go_wp2
           exact ⟨⟨_, j + 1, rfl, by simp, by omega, HQ2, ⟨hBz.os, hBz.tape, hBz.output, hBz.size, hBz.block⟩⟩, by simp [intOf]; omega⟩
         · have HE : Hid (ys = xs) := hide (by
             have hje : j = xs.length := by omega
             have h3 := hq.2
             rw [hje, List.take_length] at h3
             rw [h3, hq.1, List.take_length])
           have HV : Hid (∀ b : Bool, (b = true ↔ AllP (wT xs) ys) → b = true) := hide (fun b hb => hb.2 ⟨hpl, (hal ys).2 HE.out⟩)
           clear hq hle HQ
           have B1 : Below w.heap.size w wr := hB.trans (hBz.mono hBs)
           have x1 := (hBz.block W1.heap.size hsz).trans hd
           have z1 : W1.heap.size < wr.heap.size := Nat.lt_of_lt_of_le hsz hBz.size
           have hcl := allM_any (wT xs) d wr (ht.later B1) (TR.later (fun k hk => hBz.block k hk) _ HT.out) hps hnb bo cb ys (hy.later B1) (by omega)
           unfold ND.v at hcl
           obtain ⟨q0, q1, q2, q3, q4⟩ := cells_five x1
           go_wp2_with fail
           refine hcl.mono ?_
           rintro e W6 ⟨⟨b1, rfl, hb1'⟩, hb6⟩
           have hbt := HV.out b1 hb1'
           subst hbt
           have B6 := nx B1 hb6
           have T6 := TR.later (fun k hk => (nx hBz hb6).block k hk) _ HT.out
           have x6 := (hb6.block W1.heap.size z1).trans x1
           have z6 : W1.heap.size < W6.heap.size := Nat.lt_of_lt_of_le z1 hb6.size
           clear hcl hb1' q0 q1 q2 q3 q4 x1
           have hcl := allM_any (wT xs) d W6 (ht.later B6) T6 hps hnb ao ca xs (hx.later B6) (by omega)
           unfold ND.v at hcl
           obtain ⟨q0, q1, q2, q3, q4⟩ := cells_five x6
           go_wp2_with fail
           refine hcl.mono ?_
           rintro e W7 ⟨⟨b1, rfl, hb1'⟩, hb7⟩
           have hbt : b1 = true := hb1'.2 ⟨hpl, (hal xs).2 rfl⟩
           subst hbt
           have B7 := nx B6 hb7
           have T7 := TR.later (fun k hk => hb7.block k hk) _ T6
           have x7 := (hb7.block W1.heap.size z6).trans x6
           clear hcl hb1' q0 q1 q2 q3 q4 x6
           have hcl := nullM_any (wT xs) d W7 (ht.later B7) T7 hps hnb
           unfold ND.v at hcl
           obtain ⟨q0, q1, q2, q3, q4⟩ := cells_five x7
           go_wp2_with fail
           refine hcl.mono ?_
           rintro e W8 ⟨⟨b1, rfl, hb1'⟩, hb8⟩
           by_cases hx0 : xs.length = 0
           · have hbt : b1 = true := hb1'.2 ⟨hpl, (hal []).2 (List.eq_nil_of_length_eq_zero hx0).symm⟩
             subst hbt
             have e0 : ((xs.length : Int) == 0) = true := by simp [List.eq_nil_of_length_eq_zero hx0]
             clear hcl hb1' q0 q1 q2 q3 q4
             go_wp2
             go_ret
             exact ⟨by first | rfl | simp [hx0], nx B7 hb8⟩
           · have hbt : b1 = false := by
               cases b1 with
               | false => rfl
               | true =>
                 have := (hal []).1 (hb1'.1 rfl).2
                 rw [← this] at hx0
                 exact absurd rfl hx0
             subst hbt
             have e0 : ((xs.length : Int) == 0) = false := by simp; intro h; rw [h] at hx0; exact hx0 rfl
             clear hcl hb1' q0 q1 q2 q3 q4
             go_wp2
             go_ret
             exact ⟨by first | rfl | simp [hx0], nx B7 hb8⟩
       | false =>
         have HE : Hid (ys ≠ xs) := hide (fun h => by
           have := HQ.out.2 ⟨by rw [h], by rw [h]⟩
           cases this)
         have HV : Hid (∀ b : Bool, (b = true ↔ AllP (wT xs) ys) → b = false) := hide (fun b hb => by
           cases b with
           | false => rfl
           | true => exact absurd ((hal ys).1 (hb.1 rfl).2) HE.out)
         clear HQ
         have B1 : Below w.heap.size w wr := hB.trans (hBz.mono hBs)
         have x1 := (hBz.block W1.heap.size hsz).trans hd
         have z1 : W1.heap.size < wr.heap.size := Nat.lt_of_lt_of_le hsz hBz.size
         have hcl := allM_any (wT xs) d wr (ht.later B1) (TR.later (fun k hk => hBz.block k hk) _ HT.out) hps hnb bo cb ys (hy.later B1) (by omega)
         unfold ND.v at hcl
         obtain ⟨q0, q1, q2, q3, q4⟩ := cells_five x1
         go_wp2_with fail
         refine hcl.mono ?_
         rintro e W6 ⟨⟨b1, rfl, hb1'⟩, hb6⟩
         have hbt := HV.out b1 hb1'
         subst hbt
         have B6 := nx B1 hb6
         have T6 := TR.later (fun k hk => (nx hBz hb6).block k hk) _ HT.out
         have x6 := (hb6.block W1.heap.size z1).trans x1
         have z6 : W1.heap.size < W6.heap.size := Nat.lt_of_lt_of_le z1 hb6.size
         clear hcl hb1' q0 q1 q2 q3 q4 x1
         have hcl := allM_any (wT xs) d W6 (ht.later B6) T6 hps hnb ao ca xs (hx.later B6) (by omega)
         unfold ND.v at hcl
         obtain ⟨q0, q1, q2, q3, q4⟩ := cells_five x6
         go_wp2_with fail
         refine hcl.mono ?_
         rintro e W7 ⟨⟨b1, rfl, hb1'⟩, hb7⟩
         have hbt : b1 = true := hb1'.2 ⟨hpl, (hal xs).2 rfl⟩
         subst hbt
         have B7 := nx B6 hb7
         have T7 := TR.later (fun k hk => hb7.block k hk) _ T6
         have x7 := (hb7.block W1.heap.size z6).trans x6
         clear hcl hb1' q0 q1 q2 q3 q4 x6
         have hcl := nullM_any (wT xs) d W7 (ht.later B7) T7 hps hnb
         unfold ND.v at hcl
         obtain ⟨q0, q1, q2, q3, q4⟩ := cells_five x7
         go_wp2_with fail
         refine hcl.mono ?_
         rintro e W8 ⟨⟨b1, rfl, hb1'⟩, hb8⟩
         by_cases hx0 : xs.length = 0
         · have hbt : b1 = true := hb1'.2 ⟨hpl, (hal []).2 (List.eq_nil_of_length_eq_zero hx0).symm⟩
           subst hbt
           have e0 : ((xs.length : Int) == 0) = true := by simp [List.eq_nil_of_length_eq_zero hx0]
           clear hcl hb1' q0 q1 q2 q3 q4
           go_wp2
           go_ret
           exact ⟨by first | rfl | simp [hx0], nx B7 hb8⟩
         · have hbt : b1 = false := by
             cases b1 with
             | false => rfl
             | true =>
               have := (hal []).1 (hb1'.1 rfl).2
               rw [← this] at hx0
               exact absurd rfl hx0
           subst hbt
           have e0 : ((xs.length : Int) == 0) = false := by simp; intro h; rw [h] at hx0; exact hx0 rfl
           clear hcl hb1' q0 q1 q2 q3 q4
           go_wp2
           go_ret
           exact ⟨by first | rfl | simp [hx0], nx B7 hb8⟩
end
end Go.Proofs.YteaaijhppmkfeaaGreatDoor
