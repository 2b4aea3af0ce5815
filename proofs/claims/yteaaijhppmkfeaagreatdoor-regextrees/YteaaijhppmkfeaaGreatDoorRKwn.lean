/- What is known of two texts; known. -/
import Derived.Test.YteaaijhppmkfeaaGreatDoorRPrn
namespace Go.Proofs.YteaaijhppmkfeaaGreatDoor
open Go.RowKit Go.Shelf
open E (T)
attribute [local go_sem] Oper.semAt_some
def tA : T := .mk 1 0 [(97,97)] [] []
def tB : T := .mk 1 6 [(98,98)] [] []
def tK : T := .mk 5 0 [] [] [.mk 6 0 [] [] [tA], tB]
theorem parse1 : E.parse [39, 97, 42, 32, 124, 32, 39, 98] = .ok tK := by rfl
theorem parse2 : E.parse [39, 97, 32, 124] = .error (70, 4) := by rfl
theorem pre1 : E.pre tK tK = [(tK, tK), (.mk 6 0 [] [] [tA], .mk 6 0 [] [] [tA]), (tA, tA), (tB, tB)] := by
 simp [tK, tA, tB, E.pre, E.preK, T.kids]
theorem isp1 : E.IsP tK := by
 unfold E.IsP
 rw [pre1]
 refine ⟨by simp, fun p hp => ?_⟩
 simp only [List.mem_cons, List.not_mem_nil, or_false] at hp
 have c1 : U.S.Canon [((97 : Int), (97 : Int))] := U.S.canon_one (by decide)
 have c2 : U.S.Canon [((98 : Int), (98 : Int))] := U.S.canon_one (by decide)
 rcases hp with rfl | rfl | rfl | rfl
 · exact ⟨rfl, .inr (.inr ⟨by decide, by decide, rfl, rfl⟩)⟩
 · exact ⟨rfl, .inr (.inr ⟨by decide, by decide, rfl, rfl⟩)⟩
 · exact ⟨rfl, .inl ⟨rfl, rfl, by decide, c1⟩⟩
 · exact ⟨rfl, .inl ⟨rfl, rfl, by decide, c2⟩⟩
theorem cnt1 : E.cnt (E.pre tK tK) = 2 := by rw [pre1]; rfl
theorem chr97 : E.chr 97 = [39, 92, 117, 123, 54, 49, 125] := by
 rw [E.chr_eq, show (max 0 (min (97 : Int) 1114111)).toNat = 97 by decide, X.codeB, X.hexd, dif_neg (by decide), X.hexd, dif_pos (by decide)]
 rfl
theorem chr98 : E.chr 98 = [39, 92, 117, 123, 54, 50, 125] := by
 rw [E.chr_eq, show (max 0 (min (98 : Int) 1114111)).toNat = 98 by decide, X.codeB, X.hexd, dif_neg (by decide), X.hexd, dif_pos (by decide)]
 rfl
theorem text1 : E.text tK = [40, 40, 91, 39, 92, 117, 123, 54, 49, 125, 93, 41, 42, 32, 124, 32, 91, 39, 92, 117, 123, 54, 50, 125, 93, 41] := by
 simp [tK, tA, tB, E.text, E.textK, E.setT, E.rangesT, chr97, chr98]
theorem prn1 : E.prn tK = [40, 40, 91, 39, 92, 117, 123, 54, 49, 125, 93, 41, 42, 32, 124, 32, 91, 39, 92, 117, 123, 54, 50, 125, 93, 41] := by
 unfold E.prn; rw [if_pos isp1, text1]
theorem AnsP.ok {t : T} {w w' : World} {e : Ending} (h : AnsP (.ok t) w e w') : Below w.heap.size w w' ∧ ∃ d : ND, e = .returned (.tuple #[d.v, .int .i64 0, .int .i64 0]) ∧ TR w' (fun _ => True) t d.v := by
 obtain ⟨hb, ⟨t', v, h1, h2, h3⟩ | ⟨c, k, h1, _⟩⟩ := h
 · cases h1
   have h4 := TR.mono (ok' := fun _ => True) (fun _ _ _ => trivial) t h3
   obtain ⟨d, rfl, _⟩ := h4.nd
   exact ⟨hb, d, h2, h4⟩
 · cases h1
theorem AnsP.err {c k : Nat} {w w' : World} {e : Ending} (h : AnsP (.error (c, k)) w e w') : Below w.heap.size w w' ∧ e = .returned (.tuple #[zN, .int .i64 (k : Int), .int .i64 (c : Int)]) := by
 obtain ⟨hb, ⟨t', v, h1, h2, h3⟩ | ⟨c', k', h1, h2, _⟩⟩ := h
 · cases h1
 · cases h1
   exact ⟨hb, h2⟩
theorem TR.kidsE {w : World} {ok : Nat → Prop} {t : T} {d : ND} (h : TR w ok t d.v) : d.kl = t.kids.length ∧ KR w ok t.kids d.kp 0 ∧ t.kids.length ≤ d.kc := by
 cases t with
 | mk k a s n ks =>
   rw [TR] at h
   obtain ⟨sp, sc, kp, kc, e, h1, h2, h3⟩ := h
   unfold ND.v at e
   simp only [Value.agg.injEq, Array.mk.injEq, List.cons.injEq, Value.int.injEq, Value.slice.injEq, and_true] at e
   obtain ⟨_, _, _, _, e1, e2, e3⟩ := e
   rw [e1, e2, e3]
   exact ⟨rfl, h3, h2⟩
theorem nodeB1 : ∀ p ∈ E.pre tK tK, E.NodeB p.1 := by
 rw [pre1]
 intro p hp
 simp only [List.mem_cons, List.not_mem_nil, or_false] at hp
 rcases hp with rfl | rfl | rfl | rfl <;> simp [E.NodeB, tK, tA, tB, T.set, T.name, T.kids]
theorem TR.ndD {w : World} {ok : Nat → Prop} {t : T} {v : Value} (h : TR w ok t v) : ∃ d : ND, v = d.v := by
 obtain ⟨d, e, _⟩ := h.nd
 exact ⟨d, e⟩
set_option maxRecDepth 100000 in
set_option maxHeartbeats 4000000 in
theorem known_any (w : World) (ht : Tabs w) (hd : Deb w) : Calls Tryz.prog 13 #[] w fun e w' => e = .returned (.bool true) ∧ Below w.heap.size w w' := by
 have h1 := parse_any ⟨#[39, 97, 42, 32, 124, 32, 39, 98]⟩ (by decide) w ht
 rw [show E.parse (bts ⟨#[39, 97, 42, 32, 124, 32, 39, 98]⟩) = _ from parse1] at h1
 go_enter Tryz.func13, Tryz.ntmps13
 go_wp2_with fail
 refine h1.mono ?_
 intro e w1 ha
 obtain ⟨hb1, d, rfl, htr⟩ := ha.ok
 have hk := htr.kindE
 have hkk := htr.kidsE
 rw [show tK.kind = 5 from rfl] at hk
 rw [show tK.kids.length = 2 from rfl] at hkk
 obtain ⟨e1, e2, e3⟩ := hkk
 obtain ⟨b, off, v0, f1, f2, f3⟩ := KR.get _ 0 e2 0 (by decide)
 obtain ⟨d0, rfl⟩ := f2.ndD
 have fk := f2.kindE
 rw [show (tK.kids[0]).kind = 6 from rfl] at fk
 have hlb := cells5_lt f3
 have g0 := (cells5_atW f3 (Below.refl w1.heap.size w1) hlb).1
 rw [fk] at g0
 simp only [Nat.zero_mul, Nat.add_zero] at g0
 clear f3 f2 e2 h1 ha fk
 have HT := hide htr
 clear htr
 unfold ND.v
 rw [hk, e1, f1]
 have a1 := al1 w1 (.cells #[.int .i64 5, .int .i64 d.a, .slice d.sp d.sl d.sc, .string d.n, .slice (some ⟨b, off, none⟩) 2 d.kc] 26)
 have n1 := heap_alloc_new w1 (.cells #[.int .i64 5, .int .i64 d.a, .slice d.sp d.sl d.sc, .string d.n, .slice (some ⟨b, off, none⟩) 2 d.kc] 26)
 have s1 : (w1.alloc (.cells #[.int .i64 5, .int .i64 d.a, .slice d.sp d.sl d.sc, .string d.n, .slice (some ⟨b, off, none⟩) 2 d.kc] 26)).heap.size = w1.heap.size + 1 := by simp
 obtain ⟨X1, hX1⟩ : ∃ X1, w1.alloc (.cells #[.int .i64 5, .int .i64 d.a, .slice d.sp d.sl d.sc, .string d.n, .slice (some ⟨b, off, none⟩) 2 d.kc] 26) = X1 := ⟨_, rfl⟩
 rw [hX1] at a1 n1 s1
 have bX1 := nx hb1 a1
 have h2 := parse_any ⟨#[39, 97, 32, 124]⟩ (by decide) X1 (ht.later bX1)
 rw [show E.parse (bts ⟨#[39, 97, 32, 124]⟩) = _ from parse2] at h2
 go_wp2_with fail
 refine h2.mono ?_
 intro e X2 ha
 obtain ⟨hb2, rfl⟩ := ha.err
 clear h2 ha hX1
 have a3 := al1 X2 (.cells #[.int .i64 0, .int .i64 0, .slice none 0 0, .string ⟨#[]⟩, .slice none 0 0] 26)
 have z2 := hb2.size
 have bA := nx a1 (nx hb2 a3)
 have m1 := ((nx hb2 a3).block w1.heap.size (by omega)).trans n1
 have m0 : (X2.alloc (.cells #[.int .i64 0, .int .i64 0, .slice none 0 0, .string ⟨#[]⟩, .slice none 0 0] 26)).cell? ⟨b, off, none⟩ = some (.int .i64 6) := by rw [bA.cell (p := ⟨b, off, none⟩) hlb]; exact g0
 have bW := nx hb1 bA
 have HT3 := hide (TR.later (fun k hk => bA.block k hk) _ HT.out)
 have x1 := (hb2.block w1.heap.size (by omega)).trans n1
 obtain ⟨y0, y1, y2, y3, y4⟩ := cells_five x1
 have xl : w1.heap.size < X2.heap.size := by omega
 have xb : b < X2.heap.size := by omega
 have x0 : X2.cell? ⟨b, off, none⟩ = some (.int .i64 6) := by rw [(nx a1 hb2).cell (p := ⟨b, off, none⟩) hlb]; exact g0
 have xn : w1.heap.size ≠ X2.heap.size := by omega
 clear a3 hb2 n1 HT x1
 unfold zN
 obtain ⟨r0, r1, r2, r3, r4⟩ := cells_five m1
 have HA := hide bA
 have HM := hide m1
 have HW := hide bW
 have hp := print_any7 tK d _ (ht.later bW) (hd.later bW) HT3.out (by rw [pre1]; decide) nodeB1 (fun _ => by rw [text1]; decide)
 rw [prn1] at hp
 obtain ⟨t, ht2⟩ : ∃ t : ByteArray, (⟨[40, 40, 91, 39, 92, 117, 123, 54, 49, 125, 93, 41, 42, 32, 124, 32, 91, 39, 92, 117, 123, 54, 50, 125, 93, 41].toArray⟩ : ByteArray) = t := ⟨_, rfl⟩
 have htl : (t.toList == [40, 40, 91, 39, 92, 117, 123, 54, 49, 125, 93, 41, 42, 32, 124, 32, 91, 39, 92, 117, 123, 54, 50, 125, 93, 41]) = true := by
   rw [← ht2, ByteArray.toList_eq]
   decide
 rw [ht2] at hp
 clear ht2
 unfold ND.v at hp
 rw [hk, e1, f1] at hp
 have hix := elemSize24w
 clear bA m1 bW
 go_wp2_with fail
 refine hp.mono ?_
 rintro e X4 ⟨rfl, hb4⟩
 have bW4 := hide (nx HW.out hb4)
 have HT4 := hide (TR.later (fun k hk => hb4.block k hk) _ HT3.out)
 have M4 := hide ((hb4.block w1.heap.size (by simp; omega)).trans HM.out)
 obtain ⟨u0, u1, u2, u3, u4⟩ := cells_five M4.out
 have hpl := places_any tK d X4 HT4.out (by rw [pre1]; decide)
 rw [cnt1] at hpl
 unfold ND.v at hpl
 rw [hk, e1, f1] at hpl
 clear hp hb4 HA HM HW HT3
 go_wp2_with fail
 refine hpl.mono ?_
 rintro e X5 ⟨rfl, hb5⟩
 have bW5 := hide (nx bW4.out hb5)
 have HT5 := hide (TR.later (fun k hk => hb5.block k hk) _ HT4.out)
 have M5 := hide ((hb5.block w1.heap.size (Array.getElem?_eq_some_iff.1 M4.out).1).trans M4.out)
 obtain ⟨j0, j1, j2, j3, j4⟩ := cells_five M5.out
 have hpi := is_any7 tK d X5 (ht.later bW5.out) HT5.out (by rw [pre1]; decide) nodeB1
 unfold ND.v at hpi
 rw [hk, e1, f1] at hpi
 clear hpl hb5 HT4 M4 bW4
 go_wp2_with fail
 refine hpi.mono ?_
 rintro e X6 ⟨⟨bb, rfl, hbb⟩, hb6⟩
 obtain rfl : bb = true := hbb.2 isp1
 have bW6 := nx bW5.out hb6
 clear hbb hpi
 go_wp2
 go_ret
 exact ⟨rfl, bW6⟩
end Go.Proofs.YteaaijhppmkfeaaGreatDoor
