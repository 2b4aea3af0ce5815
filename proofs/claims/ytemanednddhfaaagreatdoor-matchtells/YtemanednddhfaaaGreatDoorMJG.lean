/- Joined: JC JG. -/
import Derived.OrdersIn
import Derived.Maps.OwnSet
import Derived.Maps.OwnIn
import Derived.Test.YtemanednddhfaaaGreatDoorMJB
import Derived.Great.BuildSlice
import Derived.Shelf.SlGeneric
import Derived.Shelf.SlLaysF0
import Derived.Test.YtemanednddhfaaaGreatDoorProg
import Derived.Shelf.SlSortCmp.NoneTotal
import Derived.BigQuiet
namespace Go.Proofs.YtemanednddhfaaaGreatDoor.U
open Go.RowKit Go.Shelf
theorem Reg.ld1 {P : Program} {w : World} {ρ : Operand → Value} {o : Oper} {ty : TypeId} {x : Operand} {a : Addr} {v : Value} (hop : o.op = .load ty x) (hx : ρ x = .pointer (some a)) (hc : w.cell? a = some v) (hagg : (isAgg ty).run P w = .ok false w) : (execOp ρ o).run P w = .ok (.value v) w := by
 obtain ⟨dst, op, type, pos, after, guard⟩ := o
 simp only at hop
 subst hop
 simp [execOp, hx, Instr.loadAt, Instr.sureAddr, loadVar, Sem.run_bind, hagg, hc, Result.andThen]
end Go.Proofs.YtemanednddhfaaaGreatDoor.U
namespace Go.Proofs.YtemanednddhfaaaGreatDoor.U
open Go.RowKit Go.Shelf
section
variable {w : World} {ρ : Operand → Value} {o : Oper}
theorem Reg.bs {P : Program} {t e : TypeId} {len : Nat} {ps : Array (Nat × Operand)} {vs : Array (Nat × Value)} {cs : Array Value} (ie : TypeInfo) (z : Value) (hop : o.op = .buildSlice t len ps) (hx : ps.map (fun (i, x) => (i, ρ x)) = vs)
   (hu : P.underlying t = some (.slice e)) (hie : P.info? e = some ie) (hz : ie.zero = some z) (hsmall : ¬ len * ie.size > 2 ^ 24) (hpos : ¬ len * ie.size = 0)
   (h : Instr.fill (fun i => some (i * ie.size, ie.size)) ((Array.range (len * ie.size)).map (z.cells[· % z.cells.size]!)) vs.toList = some cs) :
   (execOp ρ o).run P w = .ok (.value (.slice (some ⟨w.heap.size, 0, none⟩) len len)) (w.alloc (.cells cs e)) := by
 obtain ⟨dst, op, type, pos, after, guard⟩ := o
 simp only at hop
 subst hop
 simp only [execOp]
 rw [hx, Sem.run_bind, run_buildSlice w t e len vs cs ie z hu hie hz hsmall hpos h]
 rfl
end
end Go.Proofs.YtemanednddhfaaaGreatDoor.U
namespace Go.Proofs.YtemanednddhfaaaGreatDoor.U
open Go.RowKit Go.Shelf
attribute [local go_sem] Oper.semAt_some
structure Chg (p : Nat → Prop) (A B : World) : Prop where
 os : B.os = A.os
 tape : B.tape = A.tape
 output : B.output = A.output
 size : A.heap.size ≤ B.heap.size
 block : ∀ k, k < A.heap.size → ¬ p k → B.heap[k]? = A.heap[k]?
theorem cell_at {w : World} {b j : Nat} {cs : Array Value} {t : TypeId} {fz : Nat × Nat} {v : Value} (h : w.heap[b]? = some (.cells cs t fz)) (hj : cs[j]? = some v) : w.cell? ⟨b, j, none⟩ = some v := by simp [World.cell?, h, hj]
theorem frozen_at {w : World} {b j : Nat} {cs : Array Value} {t : TypeId} (h : w.heap[b]? = some (.cells cs t (0, 0))) : w.frozen? ⟨b, j, none⟩ = false := by simp [World.frozen?, h]
theorem set_at {w : World} {b j : Nat} {cs : Array Value} {t : TypeId} {fz : Nat × Nat} (v : Value) (h : w.heap[b]? = some (.cells cs t fz)) : (w.setCell ⟨b, j, none⟩ v).heap[b]? = some (.cells (cs.setIfInBounds j v) t fz) := by
 rw [Sort.setCell_eq]
 unfold Sort.mapBlock
 rw [Array.getElem?_modify, if_pos rfl, h]
 rfl
end Go.Proofs.YtemanednddhfaaaGreatDoor.U
namespace Go.Proofs.YtemanednddhfaaaGreatDoor.U
open Go.RowKit Go.Shelf
def tl (s : List UInt8) : List S.R :=
 if (s == [65, 110, 121]) = true then [(0, 1114111)] else if (s == [68, 105, 103, 105, 116]) = true then [(48, 57), (1632, 1641)] else if (s == [85, 112, 112, 101, 114]) = true then [(65, 90), (192, 214), (216, 222)] else if (s == [76, 111, 119, 101, 114]) = true then [(97, 122), (223, 246), (248, 255)] else if (s == [76, 101, 116, 116, 101, 114]) = true then [(65, 90), (97, 122), (192, 214), (216, 246), (248, 255), (880, 1327)] else if (s == [83, 112, 97, 99, 101]) = true then [(9, 13), (32, 32), (133, 133), (160, 160), (8192, 8202), (8232, 8233), (12288, 12288)] else if (s == [77, 97, 114, 107]) = true then [(768, 879), (8205, 8205), (65024, 65039)] else if (s == [80, 117, 110, 99, 116]) = true then [(33, 47), (58, 64), (91, 96), (123, 126), (8208, 8231)] else if (s == [72, 97, 110]) = true then [(19968, 40959)] else if (s == [75, 97, 110, 97]) = true then [(12352, 12543)] else if (s == [69, 109, 111, 106, 105]) = true then [(127744, 129791)] else []
def kn (s : List UInt8) : Bool :=
 if (s == [65, 110, 121]) = true then true else if (s == [68, 105, 103, 105, 116]) = true then true else if (s == [85, 112, 112, 101, 114]) = true then true else if (s == [76, 111, 119, 101, 114]) = true then true else if (s == [76, 101, 116, 116, 101, 114]) = true then true else if (s == [83, 112, 97, 99, 101]) = true then true else if (s == [77, 97, 114, 107]) = true then true else if (s == [80, 117, 110, 99, 116]) = true then true else if (s == [72, 97, 110]) = true then true else if (s == [75, 97, 110, 97]) = true then true else if (s == [69, 109, 111, 106, 105]) = true then true else false
end Go.Proofs.YtemanednddhfaaaGreatDoor.U
namespace Go.Proofs.YtemanednddhfaaaGreatDoor.U
open Go.Shelf
def sortIv_ren : Go.Shelf.Ren := ⟨fun | 6 => 219 | 15 => 116 | 14 => 224 | 28 => 149 | 29 => 150 | 20 => 229 | 21 => 230 | 22 => 231 | 23 => 232 | 24 => 233 | 25 => 234 | 26 => 235 | 27 => 236 | 46 => 241 | 47 => 167 | 48 => 168 | 49 => 242 | 50 => 243 | 57 => 245 | n => n, fun | 22 => 237 | 24 => 142 | 25 => 265 | 3 => 3 | 39 => 34 | 0 => 0 | 53 => 198 | 55 => 33 | 4 => 4 | 46 => 190 | 45 => 189 | 50 => 195 | 5 => 5 | 9 => 9 | 66 => 212 | 70 => 215 | 76 => 231 | 77 => 232 | n => n, fun | n => n⟩
theorem sortIv : Go.Proofs.SlLaysF0.n6 Tryz.prog sortIv_ren := {
 mixed := by kernel_rfl
 f6 := ⟨Tryz.f219.name, by decide, Tryz.func219.trans (congrArg some (by kernel_rfl))⟩
 f14 := ⟨Tryz.f224.name, by decide, Tryz.func224.trans (congrArg some (by kernel_rfl))⟩
 f15 := Tryz.func116.trans (congrArg some (by kernel_rfl))
 f20 := ⟨Tryz.f229.name, by decide, Tryz.func229.trans (congrArg some (by kernel_rfl))⟩
 f21 := ⟨Tryz.f230.name, by decide, Tryz.func230.trans (congrArg some (by kernel_rfl))⟩
 f22 := ⟨Tryz.f231.name, by decide, Tryz.func231.trans (congrArg some (by kernel_rfl))⟩
 f23 := ⟨Tryz.f232.name, by decide, Tryz.func232.trans (congrArg some (by kernel_rfl))⟩
 f24 := ⟨Tryz.f233.name, by decide, Tryz.func233.trans (congrArg some (by kernel_rfl))⟩
 f25 := ⟨Tryz.f234.name, by decide, Tryz.func234.trans (congrArg some (by kernel_rfl))⟩
 f26 := ⟨Tryz.f235.name, by decide, Tryz.func235.trans (congrArg some (by kernel_rfl))⟩
 f27 := ⟨Tryz.f236.name, by decide, Tryz.func236.trans (congrArg some (by kernel_rfl))⟩
 f28 := Tryz.func149.trans (congrArg some (by kernel_rfl))
 f29 := Tryz.func150.trans (congrArg some (by kernel_rfl))
 f46 := ⟨Tryz.f241.name, by decide, Tryz.func241.trans (congrArg some (by kernel_rfl))⟩
 f47 := Tryz.func167.trans (congrArg some (by kernel_rfl))
 f48 := Tryz.func168.trans (congrArg some (by kernel_rfl))
 f49 := ⟨Tryz.f242.name, by decide, Tryz.func242.trans (congrArg some (by kernel_rfl))⟩
 f50 := ⟨Tryz.f243.name, by decide, Tryz.func243.trans (congrArg some (by kernel_rfl))⟩
 f57 := ⟨Tryz.f245.name, by decide, Tryz.func245.trans (congrArg some (by kernel_rfl))⟩
 t0 := Tryz.underlying0
 a0 := Tryz.isAgg0
 z0 := Tryz.sizeOf0
 v0 := Tryz.zeroValue0
 t3 := Tryz.underlying3
 a3 := Tryz.isAgg3
 z3 := Tryz.sizeOf3
 v3 := Tryz.zeroValue3
 t4 := Tryz.underlying4
 a4 := Tryz.isAgg4
 z4 := Tryz.sizeOf4
 v4 := Tryz.zeroValue4
 t5 := Tryz.underlying5
 a5 := Tryz.isAgg5
 z5 := Tryz.sizeOf5
 v5 := Tryz.zeroValue5
 t9 := Tryz.underlying9
 a9 := Tryz.isAgg9
 z9 := Tryz.sizeOf9
 v9 := Tryz.zeroValue9
 t22 := Tryz.underlying237
 a22 := Tryz.isAgg237
 z22 := Tryz.sizeOf237
 v22 := Tryz.zeroValue237
 t25 := Tryz.underlying265
 a25 := Tryz.isAgg265
 z25 := Tryz.sizeOf265
 v25 := Tryz.zeroValue265
 t39 := Tryz.underlying34
 a39 := Tryz.isAgg34
 z39 := Tryz.sizeOf34
 v39 := Tryz.zeroValue34
 t45 := Tryz.underlying189
 a45 := Tryz.isAgg189
 z45 := Tryz.sizeOf189
 v45 := Tryz.zeroValue189
 t46 := Tryz.underlying190
 a46 := Tryz.isAgg190
 z46 := Tryz.sizeOf190
 v46 := Tryz.zeroValue190
 t50 := Tryz.underlying195
 a50 := Tryz.isAgg195
 z50 := Tryz.sizeOf195
 v50 := Tryz.zeroValue195
 t53 := Tryz.underlying198
 a53 := Tryz.isAgg198
 z53 := Tryz.sizeOf198
 v53 := Tryz.zeroValue198
 t55 := Tryz.underlying33
 a55 := Tryz.isAgg33
 z55 := Tryz.sizeOf33
 v55 := Tryz.zeroValue33
 t66 := Tryz.underlying212
 a66 := Tryz.isAgg212
 z66 := Tryz.sizeOf212
 v66 := Tryz.zeroValue212
 t70 := Tryz.underlying215
 a70 := Tryz.isAgg215
 z70 := Tryz.sizeOf215
 v70 := Tryz.zeroValue215
 t76 := Tryz.underlying231
 a76 := Tryz.isAgg231
 z76 := Tryz.sizeOf231
 v76 := Tryz.zeroValue231
 t77 := Tryz.underlying232
 a77 := Tryz.isAgg232
 z77 := Tryz.sizeOf232
 v77 := Tryz.zeroValue232 }
end Go.Proofs.YtemanednddhfaaaGreatDoor.U
namespace Go.Proofs.YtemanednddhfaaaGreatDoor.U
open Go.RowKit Go.Shelf Go.Sort
def encR (x : S.R) : List Value := [.int .i32 x.1, .int .i32 x.2]
def cf (x y : S.R) : Int := if x.1 < y.1 then -1 else if y.1 < x.1 then 1 else 0
theorem lt_cf (x y : S.R) : ltOf cf x y = decide (x.1 < y.1) := by
 unfold ltOf cf
 by_cases h1 : x.1 < y.1
 · simp [h1]
 · by_cases h2 : y.1 < x.1 <;> simp [h1, h2]
theorem swo : SWO (ltOf cf) where
 irrefl x := by rw [lt_cf]; simp
 trans x y z h1 h2 := by rw [lt_cf] at *; simp at *; omega
 ntrans x y z h1 h2 := by rw [lt_cf] at *; simp at *; omega
set_option maxHeartbeats 1000000 in
theorem closure_any (x y : S.R) (W : World) : Calls Tryz.prog 213 #[.agg #[.int .i32 x.1, .int .i32 x.2], .agg #[.int .i32 y.1, .int .i32 y.2]] W fun e w' => e = .returned (.int .i64 (cf x y)) ∧ ∃ q os', w' = grow (W.drewN q) os' := by
 have hcon := fun W' => cmp_any x.1 y.1 W'
 rw [show (if x.1 < y.1 then (-1 : Int) else if y.1 < x.1 then 1 else 0) = cf x y from rfl] at hcon
 generalize cf x y = r at hcon ⊢
 go_enter Tryz.func213, Tryz.ntmps213
 go_wp2_with (go_at_call 214; refine (hcon _).mono ?_; rintro e w' ⟨rfl, rfl⟩)
 go_ret
 exact ⟨rfl, 0, _, by rw [alloc_eq_grow, alloc_eq_grow, grow_grow]; rfl⟩
theorem cmpLays (blk off size : Nat) (w : World) : CmpLays Tryz.prog 213 #[] encR 2 cf blk off size w :=
 fun _ _ _ _ x y => closure_any x y _
theorem below_sort {w : World} {B g n : Nat} {d : Array S.R} {os : Array Obj} (hg : B ≤ g) (hB : B ≤ w.heap.size) : RowKit.Below B w (sortWorldK encR 2 w g 0 n d os) := by
 have h : RowKit.Below B w (putRow id (Sort.ahead w n) g 0 (flatK encR 2 d)) := ⟨rfl, rfl, rfl, by simp [putRow, mapBlock, Sort.ahead], fun k hk => by
   simp [putRow, mapBlock, Sort.ahead, Array.getElem?_modify, show g ≠ k by omega]⟩
 refine ⟨h.os, h.tape, h.output, ?_, fun k hk => ?_⟩
 · have := h.size
   unfold sortWorldK putRowK
   rw [size_grow]
   omega
 · unfold sortWorldK putRowK
   rw [heap_grow_old _ _ (by have := h.size; omega)]
   exact h.block k hk
theorem enc_at (d : Array S.R) (i : Nat) (h : i < d.size) : (encR d[i]!)[0]! = .int .i32 d[i].1 ∧ (encR d[i]!)[1]! = .int .i32 d[i].2 := by
 rw [getElem!_pos d i h]
 exact ⟨rfl, rfl⟩
theorem holds_own {w : World} {B g cap : Nat} {zs : List S.R} (h : OwnR w B 142 (.slice (some ⟨g, 0, none⟩) zs.length cap) zs) : HoldsK encR 2 w g 0 zs.toArray := by
 have hrd := h.rd
 obtain ⟨ao, c, e, _, _, hr⟩ := hrd
 cases e
 obtain ⟨_, ⟨e, _⟩ | ⟨g', cap', cur, e, _, hgb, _⟩⟩ := h
 · cases e
 cases e
 intro j hj
 rw [size_flatK] at hj
 have hj2 : j / 2 < zs.length := by simp at hj; omega
 obtain ⟨b, off, e, h1, h2⟩ := hr (j / 2) hj2
 cases e
 have he := enc_at zs.toArray (j / 2) (by simpa using hj2)
 rw [get_flatK _ _ _ _ hj]
 refine ⟨?_, by simp [World.frozen?, hgb]⟩
 rcases Nat.mod_two_eq_zero_or_one j with hm | hm
 · rw [hm, show (0 : Nat) + j = 0 + j / 2 * 2 by omega, h1]
   exact congrArg some he.1.symm
 · rw [hm, show (0 : Nat) + j = 0 + j / 2 * 2 + 1 by omega, h2]
   exact congrArg some he.2.symm
theorem rd_holds {w : World} {g : Nat} {d : Array S.R} (h : HoldsK encR 2 w g 0 d) : RdR w (some ⟨g, 0, none⟩) d.toList := by
 intro i hi
 have hi' : i < d.size := by simpa using hi
 have he := enc_at d i hi'
 have h0 := (h.cell (i := i) (c := 0) hi' (by omega)).1
 have h1 := (h.cell (i := i) (c := 1) hi' (by omega)).1
 rw [he.1] at h0
 rw [he.2] at h1
 exact ⟨g, 0, rfl, by simpa using h0, by simpa using h1⟩
theorem perm_of {d d' : Array S.R} (h : PermIn 0 d.size d d') : d'.toList.Perm d.toList := by
 have h1 := h.1
 have h2 := h.2.2
 rw [Array.extract_size] at h2
 rw [← h1, Array.extract_size] at h2
 exact h2
theorem sorted_of {d : Array S.R} {n : Nat} (hn : n = d.size) (h : SortedIn (ltOf cf) 0 n d) : d.toList.Pairwise fun a b => a.1 ≤ b.1 := by
 subst hn
 rw [List.pairwise_iff_getElem]
 intro i j hi hj hij
 have := h i j (Nat.zero_le _) hij (by simpa using hj)
 rw [lt_cf, getElem!_pos d j (by simpa using hj), getElem!_pos d i (by simpa using hi)] at this
 simp at this
 simpa using this
set_option maxHeartbeats 1000000 in
theorem sorted_any (v0 : Value) (zs : List S.R) (hl : zs.length ≤ 1000000) (w : World) (hit : Iter v0 zs w) :
   Calls Tryz.prog 212 #[v0, .func (.func 213) #[] #[]] w fun e W' => ∃ ao cap d, e = .returned (.slice ao d.length cap) ∧ RdR W' ao d ∧ d.Perm zs ∧ d.Pairwise (fun a b => a.1 ≤ b.1) ∧ RowKit.Below w.heap.size w W' := by
 have h := collect_any v0 zs hl w hit
 obtain ⟨gf, lb, rfl, _, _⟩ := hit
 go_enter Tryz.func212, Tryz.ntmps212
 go_wp2_with fail
 refine h.mono ?_
 rintro e w1 ⟨u, rfl, ho, hb⟩
 obtain ⟨ao, cap, rfl, hcap, hnil, hrd⟩ := ho.rd
 cases zs with
 | nil =>
   have hs := AnyF.slices_SortFunc_none (P := Tryz.prog) sortIv ao cap (.func (.func 213) #[] #[]) w1
   change Calls Tryz.prog 219 _ _ _ at hs
   clear hrd ho
   go_wp2_with (go_at_call 219; refine hs.mono ?_; rintro e w2 ⟨rfl, rfl⟩)
   go_ret
   exact ⟨ao, cap, [], rfl, rdr_nil _ _, List.Perm.refl _, List.Pairwise.nil, hb⟩
 | cons z zs =>
   obtain ⟨b, off, rfl, _, _⟩ := hrd 0 (by simp)
   have ho' := ho
   obtain ⟨_, ⟨e, _⟩ | ⟨g', cap', cur, e, hB, hgb, _⟩⟩ := ho'
   · cases e
   cases e
   have hs := AnyQ.slices_SortFunc (P := Tryz.prog) sortIv 2 Tryz.isAgg142 Tryz.sizeOf142 encR (fun _ => rfl) (fun x v hv => by simp [encR] at hv; rcases hv with rfl | rfl <;> rfl) cf swo 213 #[] b 0 cap (z :: zs).toArray w1 (enters_of Tryz.func213 (by kernel_rfl) rfl) (cmpLays b 0 _ w1) (holds_own ho) (Array.getElem?_eq_some_iff.1 hgb).1 (by simp at hl ⊢; omega)
   change Calls Tryz.prog 219 _ _ _ at hs
   have hH := holds_own ho
   have hlt := (Array.getElem?_eq_some_iff.1 hgb).1
   have hh := hb.size
   rw [List.size_toArray] at hs
   clear hrd ho hgb
   go_wp2_with (go_at_call 219; refine hs.mono ?_; rintro e w2 ⟨rfl, d', n, os, hp, hsd, rfl⟩)
   go_ret
   have hpm := perm_of (d := (z :: zs).toArray) (by rw [List.size_toArray]; exact hp)
   have hsz : d'.size = (z :: zs).length := by have := hp.1; simpa using this
   refine ⟨_, cap, d'.toList, by simp [hsz], rd_holds (holdsK_sortWorldK_c encR 2 w1 b 0 _ d' n os hH hlt (by simpa using hsz)), hpm, sorted_of hsz.symm hsd, ?_⟩
   exact hb.trans (below_sort hB hh)
end Go.Proofs.YtemanednddhfaaaGreatDoor.U
namespace Go.Proofs.YtemanednddhfaaaGreatDoor.U
open Go.RowKit Go.Shelf
theorem elemSize238 (w : World) : (sizeOf (Tryz.prog.elem 238)).run Tryz.prog w = .ok 2 w := by kernel_rfl
theorem OwnR.base {w : World} {B B' : Nat} {e : TypeId} {v : Value} {xs : List S.R} (h : OwnR w B e v xs) (hb : B' ≤ B) : OwnR w B' e v xs := by
 obtain ⟨h1, h2 | ⟨g, cap, cur, rfl, h3, h4⟩⟩ := h
 · exact ⟨h1, .inl h2⟩
 · exact ⟨h1, .inr ⟨g, cap, cur, rfl, Nat.le_trans hb h3, h4⟩⟩
theorem glue_nil (s : S.R) : S.glue [] s = [s] := rfl
theorem glue_apart (o : List S.R) (z s : S.R) (h : z.2 + 1 < s.1) : S.glue (o ++ [z]) s = o ++ [z] ++ [s] := by simp [S.glue, h]
theorem glue_join (o : List S.R) (z s : S.R) (h : ¬ z.2 + 1 < s.1) : S.glue (o ++ [z]) s = o ++ [(z.1, max z.2 s.2)] := by simp [S.glue, h]
set_option maxRecDepth 100000 in
set_option maxHeartbeats 4000000 in
theorem joined_any (v0 : Value) (zs : List S.R) (hg : ∀ r ∈ zs, S.good r = true) (hl : zs.length ≤ 1000000) (w : World) (hit : Iter v0 zs w) :
   Calls Tryz.prog 202 #[v0] w fun e W' => ∃ u out, e = .returned u ∧ OwnR W' w.heap.size 142 u out ∧ S.Canon out ∧ (∀ p, S.has out p ↔ S.has zs p) ∧ out.length ≤ zs.length ∧ Below w.heap.size w W' := by
 have h := sorted_any v0 zs hl w hit
 obtain ⟨gf, lb, rfl, _, _⟩ := hit
 go_enter Tryz.func202, Tryz.ntmps202
 go_wp2_with fail
 refine h.mono ?_
 rintro e w1 ⟨ao, cap, d, rfl, hrd, hpm, hso, hb1⟩
 have hdl : d.length = zs.length := hpm.length_eq
 have hgd : ∀ r ∈ d, S.good r = true := fun r hr => hg r (hpm.mem_iff.1 hr)
 have HP := hide hpm
 have HD := hide hdl
 have hd6 : d.length ≤ 1000000 := by omega
 clear hpm hdl hg h
 go_wp2
 go_loopw [3, 12] (fun v p wr => ∃ (k : Nat) (out : List S.R), p = .int .i64 (k : Int) ∧ k ≤ d.length ∧ OwnR wr w1.heap.size 142 v out ∧ S.Glued (d.take k) out ∧ out.length ≤ k ∧ Below w1.heap.size w1 wr) (fun _ p _ => d.length - (intOf p).toNat)
 case atStart => exact ⟨0, [], rfl, Nat.zero_le _, ownR_nil _ _ _, S.glued_nil, Nat.le_refl _, Below.refl _ _⟩
 case round =>
   obtain ⟨k, out, rfl, hk, ho, hG, hol, hB⟩ := hrel
   by_cases hlt : k < d.length
   · obtain ⟨b, off, rfl, hc1, hc2⟩ := (hrd.later hB) k hlt
     have HT : Hid (d.take (k + 1) = d.take k ++ [d[k]]) := List.take_succ_eq_append_getElem hlt
     have hgk := hgd _ (List.getElem_mem hlt)
     have hlow : ∀ r ∈ d.take k, r.1 ≤ d[k].1 := by
       intro r hr
       obtain ⟨i, hi, rfl⟩ := List.mem_iff_getElem.1 hr
       rw [List.length_take] at hi
       rw [List.getElem_take]
       exact (List.pairwise_iff_getElem.1 hso) i k (by omega) hlt (by omega)
     have hst := hide (hG.step hgk hlow)
     rw [← HT.out] at hst
     have hgk2 := (S.good_iff _).1 hgk
     generalize d[k] = s at *
     obtain ⟨s1, s2⟩ := s
     obtain ⟨av, cv, rfl, hcv, hnv, hrv⟩ := ho.rd
     have hBa : ∀ q, Below w1.heap.size w1 ((wr.alloc (.cells #[.int .i32 s1, .int .i32 s2] 142)).drewN q) := fun q => below_drewN (nx hB (al1 _ _)) q
     have hba : ∀ q, Below wr.heap.size wr ((wr.alloc (.cells #[.int .i32 s1, .int .i32 s2] 142)).drewN q) := fun q => below_drewN (al1 _ _) q
     have hs0 := cells_two (World.alloc_heap_new wr (.cells #[.int .i32 s1, .int .i32 s2] 142))
     have hszr : (wr.alloc (.cells #[.int .i32 s1, .int .i32 s2] 142)).heap.size = wr.heap.size + 1 := by simp
     simp only at hgk2
     rcases out.eq_nil_or_concat with rfl | ⟨o, z, rfl⟩
     · rw [glue_nil] at hst
       clear hrv hG hlow HT hso hgd hgk
       simp only [List.length_nil] at hcv ⊢
       go_wp2_with fail
       go_quiet (fail)
       have hBq := hBa nq
       have hoq := ho.later (hba nq)
       have hsq0 : ((wr.alloc (.cells #[.int .i32 s1, .int .i32 s2] 142)).drewN nq).cell? ⟨wr.heap.size, 0, none⟩ = some (.int .i32 s1) := hs0.1
       have hsq1 : ((wr.alloc (.cells #[.int .i32 s1, .int .i32 s2] 142)).drewN nq).cell? ⟨wr.heap.size, 1, none⟩ = some (.int .i32 s2) := hs0.2
       clear hBa hba hs0 ho hszr
       generalize (wr.alloc (.cells #[.int .i32 s1, .int .i32 s2] 142)).drewN nq = wq at *
       go_wp2_with (at_builtin; refine wpl_appR Tryz.underlying238 info76 rfl _ _ rfl w1.heap.size _ [] (some ⟨wq.heap.size, 0, none⟩) [(s1, s2)] 1 1 rfl rfl rfl (OwnR.later hoq (al1 _ _)) (by have := hBq.size; simp at this ⊢; omega) (rdr_new _ s1 s2 _) (fun e => by cases e) (by simp) ?_; intro v' w5 hown' hb5 hgr5)
       rw [List.nil_append] at hown'
       go_roundw
       case rel => exact ⟨k + 1, _, by go_num, by omega, hown', hst.out, by simp, (nx hBq (al1 _ _)).trans hb5⟩
       case measure => simp [intOf]; omega
     · rw [List.concat_eq_append] at *
       have hgz := (S.good_iff z).1 (hG.canon.good z (by simp))
       obtain ⟨b2, off2, rfl, _, _⟩ := hrv 0 (by simp)
       have hoff : off2 = 0 := by
         obtain ⟨_, h2 | ⟨_, _, _, e, _⟩⟩ := ho
         · cases h2.1
         · cases e; rfl
       subst hoff
       have hlast := ho.at_last
       obtain ⟨z1, z2⟩ := z
       simp only at hgz hlast
       clear hrv hG hlow HT hso hgd hgk
       have hlen : (o ++ [(z1, z2)]).length = o.length + 1 := by simp
       rw [hlen] at hcv hol hlast ho ⊢
       obtain ⟨_, hb2, hz1, hz2, hfz⟩ := hlast
       have hap := apart_any z1 z2 s1 s2 (by omega) (by omega)
       go_wp2_with fail
       obtain ⟨wa, hwa⟩ : ∃ wa, wa = (wr.alloc (.cells #[.int .i32 s1, .int .i32 s2] 142)).drew := ⟨_, rfl⟩
       have hB1 : Below wr.heap.size wr wa := by rw [hwa]; exact (al1 _ _).drew
       have hbx : wa.heap[wr.heap.size]? = some (.cells #[.int .i32 s1, .int .i32 s2] 142) := by rw [hwa]; exact World.alloc_heap_new wr _
       have hza : wa.rangeAt b2 (0 + o.length * 2) [.int .i32 z1, .int .i32 z2] := by
         rw [Nat.zero_add]
         exact range_two (cell_later hB1 hz1) (cell_later hB1 hz2)
       have hlb : b2 < wa.heap.size := Nat.lt_of_lt_of_le (cell_lt hz1) hB1.size
       have hls : wr.heap.size < wa.heap.size := (Array.getElem?_eq_some_iff.1 hbx).1
       refine Reg.start (B := wa.heap.size) (by kernel_rfl) ?_
       rw [← hwa]
       have hzr : ∀ {wx : World} {b' o' : Nat} {cs : List Value}, wa.rangeAt b' o' cs → b' < wa.heap.size → Below wa.heap.size wa wx → wx.rangeAt b' o' cs := fun h hl hb j v hj => (hb.cell hl).trans (h j v hj)
       refine Reg.take (fun _ _ _ _ _ h => h) 0 _ 19 (.int .i64 (o.length : Int)) rfl (by kernel_rfl) (by kernel_rfl) (by kernel_rfl) rfl (by kernel_rfl) (by kernel_rfl) (fun _ _ => by kernel_rfl) ?_
       refine Reg.take (fun _ _ _ _ _ h => h) 1 _ 20 (.bool false) rfl (by kernel_rfl) (by kernel_rfl) (by kernel_rfl) rfl (by kernel_rfl) (by kernel_rfl) (fun _ _ => Reg.lss (k := .i64) (m := (o.length : Int)) (n := 0) rfl (by kernel_rfl) (by kernel_rfl) (by simp)) ?_
       refine Reg.take (fun _ _ _ _ _ h => h) 2 _ 21 (.bool false) rfl (by kernel_rfl) (by kernel_rfl) (by kernel_rfl) rfl (by kernel_rfl) (by kernel_rfl) (fun _ _ => by kernel_rfl) ?_
       refine Reg.take (fun _ _ _ _ _ h => h) 3 _ 22 (.slice (some ⟨b2, 0, none⟩) (o.length + 1) cv) rfl (by kernel_rfl) (by kernel_rfl) (by kernel_rfl) rfl (by kernel_rfl) (by kernel_rfl) (fun _ _ => by kernel_rfl) ?_
       refine Reg.take (fun _ _ _ _ _ h => h) 4 _ 23 (.int .i64 (o.length : Int)) rfl (by kernel_rfl) (by kernel_rfl) (by kernel_rfl) rfl (by kernel_rfl) (by kernel_rfl) (fun _ _ => by kernel_rfl) ?_
       refine Reg.take (fun _ _ _ _ _ h => h) 5 _ 24 (.pointer (some ⟨b2, 0 + o.length * 2, none⟩)) rfl (by kernel_rfl) (by kernel_rfl) (by kernel_rfl) rfl (by kernel_rfl) (by kernel_rfl) (fun wx _ => Reg.ix (len := o.length + 1) (cap := cv) (q := .i64) rfl (by kernel_rfl) (by kernel_rfl) (by omega) Tryz.underlying238 (elemSize238 wx)) ?_
       refine Reg.take (fun _ _ _ _ _ h => h) 6 _ 25 (.agg #[.int .i32 z1, .int .i32 z2]) rfl (by kernel_rfl) (by kernel_rfl) (by kernel_rfl) rfl (by kernel_rfl) (by kernel_rfl) (fun wx hb => Reg.ld (cs := [.int .i32 z1, .int .i32 z2]) rfl (by kernel_rfl) (hzr hza hlb hb) Tryz.underlying142 rfl (by kernel_rfl)) ?_
       refine Reg.take (fun _ _ _ _ _ h => h) 7 _ 26 (.agg #[.int .i32 s1, .int .i32 s2]) rfl (by kernel_rfl) (by kernel_rfl) (by kernel_rfl) rfl (by kernel_rfl) (by kernel_rfl) (fun wx hb => Reg.ld (cs := [.int .i32 s1, .int .i32 s2]) rfl (by kernel_rfl) (hzr (range_block hbx) hls hb) Tryz.underlying142 rfl (by kernel_rfl)) ?_
       refine Reg.call 8 _ 27 139 _ _ #[.agg #[.int .i32 z1, .int .i32 z2], .agg #[.int .i32 s1, .int .i32 s2]] rfl (by kernel_rfl) rfl (by kernel_rfl) (by kernel_rfl) rfl (by kernel_rfl) (by kernel_rfl) (hap wa) ?_
       clear hap
       rintro e wq ⟨rfl, hbq⟩
       refine ⟨_, wq.heap.size, rfl, hbq.size, hbq, ?_⟩
       obtain ⟨r, hr⟩ : ∃ r, decide (z2 + 1 < s1) = r := ⟨_, rfl⟩
       rw [hr]
       refine Reg.take (fun _ _ _ _ _ h => h) 9 _ 28 (.bool r) rfl (by kernel_rfl) (by kernel_rfl) (by kernel_rfl) rfl (by kernel_rfl) (by kernel_rfl) (fun _ _ => by kernel_rfl) ?_
       refine Reg.done_at (by kernel_rfl) { tmps := #[.func (.func gf) #[] lb, undef, .slice none 0 0, .slice (some ⟨b2, 0, none⟩) (o.length + 1) cv, .slice (some ⟨b, off, none⟩) d.length cap, undef, .pointer (some ⟨wr.heap.size, 0, none⟩), .int .i64 (o.length : Int), .func (.func gf) #[] lb, .slice (some ⟨b, off, none⟩) d.length cap, .slice (some ⟨b, off, none⟩) d.length cap, .int .i64 (d.length : Int), .int .i64 (k : Int), .bool true, .pointer (some ⟨b, off + k * 2, none⟩), .agg #[.int .i32 s1, .int .i32 s2], .slice (some ⟨b2, 0, none⟩) (o.length + 1) cv, .int .i64 ((o.length : Int) + 1), .int .i64 (o.length : Int), .int .i64 (o.length : Int), .bool false, .bool false, .slice (some ⟨b2, 0, none⟩) (o.length + 1) cv, .int .i64 (o.length : Int), .pointer (some ⟨b2, 0 + o.length * 2, none⟩), .agg #[.int .i32 z1, .int .i32 z2], .agg #[.int .i32 s1, .int .i32 s2], .bool r, .bool r, u29, u30, u31, u32, u33, u34, u35, u36, u37, u38, u39, u40, u41, u42, u43, u44, u45, undef], defers := [] } (by kernel_rfl) ?_
       have hB2 := nx hB1 hbq
       have hoq := ho.later hB2
       have hBq := nx hB hB2
       have hsq0 := (hbq.cell (p := ⟨wr.heap.size, 0, none⟩) hls).trans (cells_two hbx).1
       have hsq1 := (hbq.cell (p := ⟨wr.heap.size, 1, none⟩) hls).trans (cells_two hbx).2
       have hlsq : wr.heap.size < wq.heap.size := Nat.lt_of_lt_of_le hls hbq.size
       have hwr := hB.size
       clear hBa hba hs0 hszr hza hzr hlb hbx hB1 hbq hwa hz1 hz2 hfz hB2 ho hB hc1 hc2
       cases r with
       | true =>
         have hlt2 : z2 + 1 < s1 := by simpa using hr
         have HG : Hid (S.Glued (List.take (k + 1) d) (o ++ [(z1, z2)] ++ [(s1, s2)])) := by
           have := hst.out
           rw [glue_apart o (z1, z2) (s1, s2) hlt2] at this
           exact this
         clear hst hr
         go_wp2_with (at_builtin; refine wpl_appR Tryz.underlying238 info76 rfl _ _ rfl w1.heap.size _ (o ++ [(z1, z2)]) (some ⟨wq.heap.size, 0, none⟩) [(s1, s2)] 1 1 rfl rfl rfl (OwnR.later hoq (al1 _ _)) (by have := hBq.size; simp at this ⊢; omega) (rdr_new _ s1 s2 _) (fun e => by cases e) (by simp at hol ⊢; omega) ?_; intro v' w5 hown' hb5 hgr5)
         go_roundw
         case rel => exact ⟨k + 1, _, by go_num, by omega, hown', HG.out, by simp at hol ⊢; omega, (nx hBq (al1 _ _)).trans hb5⟩
         case measure => simp [intOf]; omega
       | false =>
         have hlt2 : ¬ z2 + 1 < s1 := by simpa using hr
         have HG : Hid (S.Glued (List.take (k + 1) d) (o ++ [(z1, max z2 s2)])) := by
           have := hst.out
           rw [glue_join o (z1, z2) (s1, s2) hlt2] at this
           exact this
         clear hst hr
         obtain ⟨_, hb2', hz1, hz2, hfz⟩ := hoq.at_last
         have hmx : (if z2 < s2 then s2 else z2) = max z2 s2 := by omega
         have hnew := hoq.set_last (max z2 s2)
         go_wp2_with fail
         go_region
         have hnw : OwnR (wq.setCell ⟨b2, o.length * 2 + 1, none⟩ (.int .i32 (max z2 s2))).drew w1.heap.size 142 (.slice (some ⟨b2, 0, none⟩) (o.length + 1) cv) (o ++ [(z1, max z2 s2)]) := hnew
         have hBn : Below w1.heap.size w1 (wq.setCell ⟨b2, o.length * 2 + 1, none⟩ (.int .i32 (max z2 s2))).drew := (hBq.setCell (p := ⟨b2, o.length * 2 + 1, none⟩) hb2' _).drew
         clear hnew
         generalize (wq.setCell ⟨b2, o.length * 2 + 1, none⟩ (.int .i32 (max z2 s2))).drew = wn at *
         go_wp2
         go_roundw
         case rel => exact ⟨k + 1, _, by go_num, by omega, hnw, HG.out, by simp at hol ⊢; omega, hBn⟩
         case measure => simp [intOf]; omega
   · obtain rfl : k = d.length := by omega
     rw [List.take_length] at hG
     go_wp2
     go_ret
     exact ⟨_, out, rfl, ho.base hb1.size, hG.canon, fun p => by rw [hG.mem, S.has_perm HP.out], by rw [← HD.out]; exact hol, nx hb1 hB⟩
set_option maxHeartbeats 1000000 in
theorem setOf_any (b off cap : Nat) (ls : List L3) (hl : ls.length ≤ 1000) (hl2 : ∀ p ∈ ls, p.2.2.length ≤ 1000000) (hfl : (flat ls).length ≤ 1000000) (w : World) (hr : RdL w b off ls) :
   Calls Tryz.prog 190 #[.slice (some ⟨b, off, none⟩) ls.length cap] w fun e W' => ∃ u, e = .returned u ∧ OwnR W' w.heap.size 142 u (S.set (flat ls)) ∧ (S.set (flat ls)).length ≤ (flat ls).length ∧ Below w.heap.size w W' := by
 go_enter Tryz.func190, Tryz.ntmps190
 go_wp2_with fail
 refine (goodSpans_gives b off cap ls hl hl2 w hr).mono ?_
 rintro e w1 ⟨v, rfl, hit, hb1⟩
 have hgl : (S.goods (flat ls)).length ≤ (flat ls).length := List.length_filter_le _ _
 have h := joined_any v (S.goods (flat ls)) (fun r hr => S.goods_good hr) (by omega) w1 hit
 obtain ⟨gf, lb, rfl, _, _⟩ := hit
 go_wp2_with fail
 refine h.mono ?_
 rintro e w2 ⟨u, out, rfl, ho, hC, hm, hol, hb2⟩
 obtain rfl : out = S.set (flat ls) := S.set_eq hC hm
 have hq := ho.base hb1.size
 obtain ⟨ao, cp, rfl, _⟩ := ho.rd
 go_wp2
 go_ret
 exact ⟨_, rfl, hq, by omega, nx hb1 hb2⟩
end Go.Proofs.YtemanednddhfaaaGreatDoor.U
namespace Go.Proofs.YtemanednddhfaaaGreatDoor.U
open Go.RowKit Go.Shelf
def Res (w : World) (zs : List S.R) (e : Ending) (W' : World) : Prop := ∃ ao cap, e = .returned (.slice ao zs.length cap) ∧ RdR W' ao zs ∧ (ao = none → cap = 0) ∧ Below w.heap.size w W'
theorem OwnR.res {w W' : World} {B : Nat} {e : TypeId} {v : Value} {zs : List S.R} (h : OwnR W' B e v zs) (hb : Below w.heap.size w W') : Res w zs (.returned v) W' := by
 obtain ⟨ao, cap, rfl, _, hn, hr⟩ := h.rd
 exact ⟨ao, cap, rfl, hr, hn, hb⟩
theorem rdl_one {W : World} {ao : Option Addr} {ca : Nat} {xs : List S.R} (T : TypeId) (h : RdR W ao xs) : RdL (W.alloc (.cells #[.slice ao xs.length ca] T)) W.heap.size 0 [(ao, ca, xs)] := by
 refine ⟨fun i hi => ?_, fun p hp => ?_, by simp⟩
 · obtain rfl : i = 0 := by simpa using hi
   exact (Boxed.new W T _).cell
 · simp at hp; subst hp
   exact h.later (al1 W _)
theorem setOf1 (ao : Option Addr) (ca : Nat) (xs : List S.R) (T : TypeId) (hl : xs.length ≤ 1000000) (W : World) (h : RdR W ao xs) :
   Calls Tryz.prog 190 #[.slice (some ⟨W.heap.size, 0, none⟩) 1 1] (W.alloc (.cells #[.slice ao xs.length ca] T)) (Res W (S.set xs)) := by
 have h1 := setOf_any W.heap.size 0 1 [(ao, ca, xs)] (by simp) (fun p hp => by simp at hp; subst hp; exact hl) (by simp [flat]; exact hl) _ (rdl_one T h)
 rw [show flat [(ao, ca, xs)] = xs by simp [flat]] at h1
 refine h1.mono ?_
 rintro e W' ⟨u, rfl, ho, _, hb⟩
 exact ho.res (nx (al1 W _) hb)
end Go.Proofs.YtemanednddhfaaaGreatDoor.U
namespace Go.Proofs.YtemanednddhfaaaGreatDoor.U
open Go.RowKit Go.Shelf
noncomputable def normL (xs : List S.R) : List S.R := if (xs.all S.good) = true ∧ (S.set xs).length ≤ 200 then S.set xs else []
noncomputable def normE (xs : List S.R) : Int := if (xs.all S.good) = true ∧ (S.set xs).length ≤ 200 then 0 else 30
set_option maxRecDepth 100000 in
set_option maxHeartbeats 2000000 in
theorem norm_any (ao : Option Addr) (ca : Nat) (xs : List S.R) (hl : xs.length ≤ 400000) (w : World) (h : RdR w ao xs) :
   Calls Tryz.prog 179 #[.slice ao xs.length ca] w fun e W' => ∃ a c, e = .returned (.tuple #[.slice a (normL xs).length c, .int .i64 (normE xs)]) ∧ RdR W' a (normL xs) ∧ (a = none → c = 0) ∧ Below w.heap.size w W' := by
 have hs1 := S.set_length xs
 have hset := fun (T : TypeId) (W : World) (h : RdR W ao xs) => setOf1 ao ca xs T (by omega) W h
 obtain ⟨nl, hnl⟩ : ∃ nl, normL xs = nl := ⟨_, rfl⟩
 obtain ⟨ne, hne⟩ : ∃ ne, normE xs = ne := ⟨_, rfl⟩
 rw [hnl, hne]
 unfold normL at hnl
 unfold normE at hne
 have HL := hide hnl
 have HE := hide hne
 clear hnl hne
 generalize S.set xs = zs at *
 go_enter Tryz.func179, Tryz.ntmps179
 go_wp2
 go_loopw [9] (fun p wr => ∃ k : Nat, p = .int .i64 (k : Int) ∧ k ≤ xs.length ∧ (∀ r ∈ xs.take k, S.good r = true) ∧ Below w.heap.size w wr) (fun p _ => xs.length - (intOf p).toNat)
 case atStart => exact ⟨0, rfl, Nat.zero_le _, fun r hr => by simp at hr, Below.refl _ _⟩
 case round =>
   obtain ⟨k, rfl, hk, hgs, hB⟩ := hrel
   by_cases hlt : k < xs.length
   · obtain ⟨b, off, rfl, hd1, hd2⟩ := (h.later hB) k hlt
     have hT := List.take_succ_eq_append_getElem hlt
     have hgood := isGood_any xs[k].1 xs[k].2
     rw [show (xs[k].1, xs[k].2) = xs[k] from rfl] at hgood
     obtain ⟨gx, hgx⟩ : ∃ gx, S.good xs[k] = gx := ⟨_, rfl⟩
     rw [hgx] at hgood
     have HX := hide hgx
     have HT := hide hT
     have hmem := List.getElem_mem hlt
     clear hgx hT
     generalize hxk : xs[k] = s at *
     obtain ⟨s1, s2⟩ := s
     simp only at hgood hd1 hd2
     have HK := hide hxk
     have hbx := al1 wr (.cells #[.int .i32 s1, .int .i32 s2] 102)
     clear hxk h
     cases gx with
     | true =>
       go_wp2_with (go_at_call 118; refine (hgood _).mono ?_; clear hgood; rintro e w2 ⟨rfl, hb2⟩)
       go_roundw
       case rel => exact ⟨k + 1, by go_num, by omega, fun r hr => by
         rw [HT.out] at hr
         rcases List.mem_append.1 hr with hr | hr
         · exact hgs r hr
         · simp at hr; rw [hr]; exact HX.out, nx (nx hB hbx) hb2⟩
       case measure => simp [intOf]; omega
     | false =>
       go_wp2_with (go_at_call 118; refine (hgood _).mono ?_; clear hgood; rintro e w2 ⟨rfl, hb2⟩)
       have hno : ¬ ((xs.all S.good) = true ∧ zs.length ≤ 200) := fun hh => by
         have := List.all_eq_true.1 hh.1 _ hmem
         rw [HX.out] at this
         cases this
       rw [if_neg hno] at HL HE
       obtain rfl : [] = nl := HL.out
       obtain rfl : 30 = ne := HE.out
       go_ret2
       exact ⟨none, 0, rfl, rdr_nil _ _, fun _ => rfl, nx (nx hB hbx) hb2⟩
   · obtain rfl : k = xs.length := by omega
     rw [List.take_length] at hgs
     have hall : xs.all S.good = true := List.all_eq_true.2 hgs
     have hr0 := h.later hB
     go_wp2_with fail
     refine (hset _ wr hr0).mono ?_
     clear hset
     rintro e w1 ⟨a1, c1, rfl, hr1, _, hb1⟩
     by_cases hbig : zs.length ≤ 200
     · go_wp2_with fail
       refine (values_gives a1 zs c1 (by omega) w1 hr1).mono ?_
       rintro e w2 ⟨v, rfl, hit, hb2⟩
       have hlo := listOf_any v zs (by omega) w2 w2 hit (Below.refl _ _)
       obtain ⟨gf, lb, rfl, _, _⟩ := hit
       go_wp2_with fail
       refine hlo.mono ?_
       rintro e w3 ⟨u, rfl, ho, hb3⟩
       obtain ⟨a3, c3, rfl, _, hn3, hr3⟩ := ho.rd
       go_wp2
       rw [if_pos ⟨hall, hbig⟩] at HL HE
       obtain rfl : zs = nl := HL.out
       obtain rfl : 0 = ne := HE.out
       go_ret2
       exact ⟨a3, c3, rfl, hr3, hn3, nx (nx (nx hB hb1) hb2) hb3⟩
     · go_wp2
       rw [if_neg (fun hh => hbig hh.2)] at HL HE
       obtain rfl : [] = nl := HL.out
       obtain rfl : 30 = ne := HE.out
       go_ret2
       exact ⟨none, 0, rfl, rdr_nil _ _, fun _ => rfl, nx hB hb1⟩
end Go.Proofs.YtemanednddhfaaaGreatDoor.U
