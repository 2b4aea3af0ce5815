/- Joined: RNm7 RTrs. -/
import Derived.Test.YteaaijhppmkfeaaGreatDoorRFo7
import Derived.Laws.CopyOwn
import Derived.Laws.CopyRow
import Derived.Laws.IdiomCopy
import Derived.Sort.Walk0
namespace Go.Proofs.YteaaijhppmkfeaaGreatDoor
open Go.RowKit Go.Shelf
open E (T)
attribute [local go_sem] Oper.semAt_some
namespace E
theorem srt_uniq : ∀ {a b : List (List UInt8)}, a.Pairwise (· < ·) → b.Pairwise (· < ·) → (∀ y, y ∈ a ↔ y ∈ b) → a = b
 | [], [], _, _, _ => rfl
 | [], y :: b, _, _, h => absurd ((h y).2 List.mem_cons_self) (by simp)
 | x :: a, [], _, _, h => absurd ((h x).1 List.mem_cons_self) (by simp)
 | x :: a, y :: b, ha, hb, h => by
   rw [List.pairwise_cons] at ha hb
   have hxy : x = y := by
     rcases List.mem_cons.1 ((h x).1 List.mem_cons_self) with e | e
     · exact e
     · rcases List.mem_cons.1 ((h y).2 List.mem_cons_self) with e' | e'
       · exact e'.symm
       · exact absurd (List.lt_trans (hb.1 x e) (ha.1 y e')) (List.lt_irrefl y)
   subst hxy
   refine congrArg (x :: ·) (srt_uniq ha.2 hb.2 fun z => ⟨fun hz => ?_, fun hz => ?_⟩)
   · rcases List.mem_cons.1 ((h z).1 (List.mem_cons_of_mem _ hz)) with e | e
     · subst e; exact absurd (ha.1 z hz) (List.lt_irrefl z)
     · exact e
   · rcases List.mem_cons.1 ((h z).2 (List.mem_cons_of_mem _ hz)) with e | e
     · subst e; exact absurd (hb.1 z hz) (List.lt_irrefl z)
     · exact e
theorem comp_srt (zs : List (List UInt8)) (hs : zs.Pairwise (· ≤ ·)) : ∀ m, m ≤ zs.length → (Go.Lib.compactUpTo zs.toArray m).Pairwise (· < ·) ∧ (∀ y, y ∈ Go.Lib.compactUpTo zs.toArray m ↔ y ∈ zs.take m)
 | 0, _ => by simp [Go.Lib.compactUpTo]
 | m + 1, hm => by
   obtain ⟨h1, h2⟩ := comp_srt zs hs m (by omega)
   have hlt : m < zs.length := hm
   have hd : zs.toArray[m]! = zs[m] := by simp [hlt]
   have htk : zs.take (m + 1) = zs.take m ++ [zs[m]] := List.take_succ_eq_append_getElem hlt
   have hle : ∀ y ∈ zs.take m, y ≤ zs[m] := by
     intro y hy
     obtain ⟨j, hj, rfl⟩ := List.mem_iff_getElem.1 hy
     rw [List.length_take] at hj
     rw [List.getElem_take]
     exact (List.pairwise_iff_getElem.1 hs) j m (by omega) hlt (by omega)
   rw [Go.Lib.compactUpTo_succ, hd]
   by_cases hk : Go.Lib.keeps zs.toArray m = true
   · rw [if_pos hk]
     have hnm : zs[m] ∉ zs.take m := by
       intro hmem
       cases m with
       | zero => simp at hmem
       | succ j =>
         have hne : zs[j] ≠ zs[j + 1] := by
           have hj : j < zs.length := by omega
           unfold Go.Lib.keeps at hk
           simp [hj, hlt] at hk
           intro e; exact hk (by first | exact e | exact e.symm)
         obtain ⟨i, hi, he⟩ := List.mem_iff_getElem.1 hmem
         rw [List.length_take] at hi
         rw [List.getElem_take] at he
         have h3 : zs[j + 1] ≤ zs[j] := by
           rw [← he]
           by_cases hij : i = j
           · subst hij; exact List.le_refl _
           · exact (List.pairwise_iff_getElem.1 hs) i j (by omega) (by omega) (by omega)
         have h4 : zs[j] ≤ zs[j + 1] := (List.pairwise_iff_getElem.1 hs) j (j + 1) (by omega) hlt (by omega)
         exact hne (List.le_antisymm h4 h3)
     refine ⟨?_, fun y => ?_⟩
     · rw [List.pairwise_append]
       refine ⟨h1, List.pairwise_singleton _ _, ?_⟩
       intro y hy z hz
       rw [List.mem_singleton] at hz
       subst hz
       have hy' := (h2 y).1 hy
       have := hle y hy'
       rcases List.le_iff_lt_or_eq.1 this with h | h
       · exact h
       · subst h; exact absurd hy' hnm
     · rw [htk, List.mem_append, List.mem_append, h2]
   · rw [if_neg hk, List.append_nil]
     refine ⟨h1, fun y => ?_⟩
     rw [htk, List.mem_append, h2, List.mem_singleton]
     refine ⟨.inl, fun h => ?_⟩
     rcases h with h | h
     · exact h
     · subst h
       cases m with
       | zero => exact absurd (Go.Lib.keeps_lt_one _ 0 (by omega)) hk
       | succ j =>
         have hj : j < zs.length := by omega
         have he : zs[j] = zs[j + 1] := by
           unfold Go.Lib.keeps at hk
           simp [hj, hlt] at hk
           first | exact hk | exact hk.symm
         rw [← he]
         exact List.mem_iff_getElem.2 ⟨j, by rw [List.length_take]; omega, by rw [List.getElem_take]⟩
theorem sort_le (l : List (List UInt8)) : (l.mergeSort fun x y => decide (x ≤ y)).Pairwise (· ≤ ·) := by
 have h : (l.mergeSort fun x y => decide (x ≤ y)).Pairwise (fun x y => decide (x ≤ y) = true) := by
   refine List.pairwise_mergeSort ?_ ?_ _
   · intro a b c h1 h2
     simp only [decide_eq_true_eq] at h1 h2 ⊢
     exact List.le_trans h1 h2
   · intro a b
     simp only [Bool.or_eq_true, decide_eq_true_eq]
     exact List.le_total a b
 exact h.imp fun h => by simpa using h
def NmR (ss ns ss' : List (List UInt8)) : Prop := ss'.Pairwise (· < ·) ∧ (∀ y, y ∈ ss' ↔ y ∈ ss ∨ y ∈ ns) ∧ ss'.length ≤ ss.length + ns.length
theorem nmR_top (t : T) (ss' : List (List UInt8)) (h : NmR [] (vnk (pre t t)) ss') : ss' = nmL t := by
 obtain ⟨h1, h2, _⟩ := h
 have hs := sort_le (vnk (pre t t))
 have hc := comp_srt _ hs _ (Nat.le_refl _)
 unfold nmL Go.Lib.compact
 refine srt_uniq h1 hc.1 fun y => ?_
 rw [h2, hc.2, List.take_length, (List.mergeSort_perm _ _).mem_iff]
 simp
theorem nmR_refl (ss : List (List UInt8)) (h : ss.Pairwise (· < ·)) : NmR ss [] ss := ⟨h, fun y => by simp, by simp⟩
theorem nmR_trans {a b c m n : List (List UInt8)} (h : NmR a m b) (k : NmR b n c) : NmR a (m ++ n) c :=
 ⟨k.1, fun y => by rw [k.2.1, h.2.1, List.mem_append, or_assoc], by have := h.2.2; have := k.2.2; rw [List.length_append]; omega⟩
theorem nmR_in {ss : List (List UInt8)} {x : List UInt8} (h : ss.Pairwise (· < ·)) (hx : x ∈ ss) : NmR ss [x] ss :=
 ⟨h, fun y => ⟨.inl, fun hy => hy.elim id (fun e => by rw [List.mem_singleton] at e; rw [e]; exact hx)⟩, by omega⟩
theorem nmR_ins {ss : List (List UInt8)} {x : List UInt8} (h : ss.Pairwise (· < ·)) (i : Nat) (h1 : ∀ y ∈ ss.take i, y < x) (h2 : ∀ y ∈ ss.drop i, x < y) : NmR ss [x] (ss.take i ++ x :: ss.drop i) := by
 refine ⟨?_, fun y => ?_, by simp; omega⟩
 · rw [← List.take_append_drop i ss, List.pairwise_append] at h
   rw [List.pairwise_append]
   refine ⟨h.1, List.pairwise_cons.2 ⟨h2, h.2.1⟩, fun y hy z hz => ?_⟩
   rcases List.mem_cons.1 hz with rfl | hz
   · exact h1 y hy
   · exact h.2.2 y hy z hz
 · have : y ∈ ss ↔ y ∈ ss.take i ∨ y ∈ ss.drop i := by rw [← List.mem_append, List.take_append_drop]
   rw [this, List.mem_append, List.mem_cons, List.mem_singleton]
   constructor
   · rintro (h | h | h)
     · exact .inl (.inl h)
     · exact .inr h
     · exact .inl (.inr h)
   · rintro ((h | h) | h)
     · exact .inl h
     · exact .inr (.inr h)
     · exact .inr (.inl h)
theorem vnk_app (a b : List (T × T)) : vnk (a ++ b) = vnk a ++ vnk b := by unfold vnk; rw [List.filter_append, List.map_append]
def vnK (ks : List T) : List (List UInt8) := vnk (ks.flatMap fun x => pre x x)
theorem vnK_snoc (l : List T) (x : T) : vnK (l ++ [x]) = vnK l ++ vnk (pre x x) := by unfold vnK; rw [List.flatMap_append, vnk_app]; simp
theorem vnk_eq (t : T) : vnk (pre t t) = (if t.kind = 2 then [t.name] else []) ++ vnK t.kids := by
 rw [pre_self]
 unfold vnK vnk
 by_cases h : t.kind = 2
 · rw [List.filter_cons_of_pos (by simpa using h), if_pos h]; rfl
 · rw [List.filter_cons_of_neg (by simpa using h), if_neg h]; rfl
theorem vnK_le (l : List T) : (vnK l).length ≤ sK l := vnk_le _
theorem drop_gt {ss : List (List UInt8)} (h : ss.Pairwise (· < ·)) {i : Nat} (hi : i < ss.length) {x : List UInt8} (h1 : ¬ ss[i] < x) (h2 : ss[i] ≠ x) : ∀ y ∈ ss.drop i, x < y := by
 have hx : x < ss[i] := by
   rcases List.le_iff_lt_or_eq.1 (List.not_lt.1 h1) with h | h
   · exact h
   · exact absurd h.symm h2
 intro y hy
 obtain ⟨j, hj, rfl⟩ := List.mem_iff_getElem.1 hy
 rw [List.getElem_drop]
 by_cases h0 : j = 0
 · subst h0; exact hx
 · exact List.lt_trans hx ((List.pairwise_iff_getElem.1 h) i (i + j) hi (by rw [List.length_drop] at hj; omega) (by omega))
end E
def KN (w w' : World) : Prop := ∀ (k : Nat) (o : Obj), w.heap[k]? = some o → notS (some o) = true → w'.heap[k]? = some o
theorem KN.refl (w : World) : KN w w := fun _ _ h _ => h
theorem KN.trans {a b c : World} (h : KN a b) (k : KN b c) : KN a c := fun i o h1 h2 => k i o (h i o h1 h2) h2
theorem KN.of {a b : World} (h : Below a.heap.size a b) : KN a b := fun k _ h1 _ => (h.block k (Array.getElem?_eq_some_iff.1 h1).1).trans h1
theorem KN.own {w w' : World} {B : Nat} {v : Value} {ss : List (List UInt8)} (ho : OwnN w B v ss) (hg : w.grownBy w' v.ownBlock) : KN w w' := fun _ _ h1 h2 => ho.stay hg h1 h2
theorem KN.row {w w' : World} {g : Nat} {cur : Array Value} (hg : w.heap[g]? = some (.cells cur 9 (0, 0))) (h : ∀ k, k ≠ g → w'.heap[k]? = w.heap[k]?) : KN w w' := fun k o h1 h2 => by
 by_cases hk : k = g
 · subst hk; rw [hg] at h1; cases h1; cases h2
 · rw [h k hk]; exact h1
theorem elemSize37 (w : World) : (sizeOf (Tryz.prog.elem 37)).run Tryz.prog w = .ok 1 w := by kernel_rfl
def cutP (g cap k : Nat) : Option Addr := if cap = k then some ⟨g, 0, none⟩ else some ⟨g, k, none⟩
set_option maxRecDepth 100000 in
theorem cut_fromN (g n cap k : Nat) (hk : k ≤ n) (wx : World) : (Instr.sliceAt 37 (.slice (some ⟨g, 0, none⟩) n cap) (some (.int .i64 (k : Int))) none none).run Tryz.prog wx = .ok (.slice (cutP g cap k) (n - k) (cap - k)) wx := by
 rw [run_sliceAt_slice (P := Tryz.prog) wx 37 _ _ _ _ Tryz.underlying37, run_slice_l (P := Tryz.prog) (w := wx) 37 (some ⟨g, 0, none⟩) n cap Tryz.underlying37 .i64 (k : Int) (by omega) (by omega), elemSize37]
 simp only [Result.andThen, sliced, Int.toNat_natCast, cutP, Option.map_some, Addr.add_mid, Nat.mul_one, Nat.zero_add]
theorem Reg.sl {P : Program} {w : World} {ρ : Operand → Value} {o : Oper} {t : TypeId} {x y : Operand} {vx vy u : Value} (hop : o.op = .slice t x (some y) none none) (hx : ρ x = vx) (hy : ρ y = vy) (h : (Instr.sliceAt t vx (some vy) none none).run P w = .ok u w) : (execOp ρ o).run P w = .ok (.value u) w := by
 obtain ⟨dst, op, type, pos, after, guard⟩ := o
 simp only at hop
 subst hop
 simp [execOp, hx, hy, h, Result.andThen]
theorem Reg.cpy {P : Program} {w w' : World} {ρ : Operand → Value} {o : Oper} {t u : TypeId} {x y : Operand} {vx vy v : Value} (hop : o.op = .call { callee := .builtin .copy, args := #[x, y], argTypes := #[t, u] }) (hx : ρ x = vx) (hy : ρ y = vy)
   (h : (Builtin.copy_ #[t, u] o.type #[vx, vy]).run P w = .ok v w') : (execOp ρ o).run P w = .ok (.value v) w' := by
 obtain ⟨dst, op, type, pos, after, guard⟩ := o
 simp only at hop h
 subst hop
 simp [execOp, resolve, invoke, builtin, hx, hy, h, Result.andThen]
theorem Reg.adI {w : World} {ρ : Operand → Value} {o : Oper} {x y : Operand} {m n c : Int} (hop : o.op = .binOp .add 3 x y 3) (hx : ρ x = .int .i64 m) (hy : ρ y = .int .i64 n) (h : IntKind.i64.wrap (m + n) = c) : (execOp ρ o).run Tryz.prog w = .ok (.value (.int .i64 c)) w := by
 obtain ⟨dst, op, type, pos, after, guard⟩ := o
 simp only at hop
 subst hop
 simp [execOp, hx, hy, eqGuard, h, go_sem]
theorem Reg.mv7 {w : World} {ρ : Operand → Value} {o : Oper} {x : Operand} {v : Value} (hop : o.op = .move x) (hx : ρ x = v) : (execOp ρ o).run Tryz.prog w = .ok (.value v) w := by
 obtain ⟨dst, op, type, pos, after, guard⟩ := o
 simp only at hop
 subst hop
 simp [execOp, hx]
theorem ins_mem (ty : TypeId) {w : World} {g n cap i : Nat} {cur : Array Value} {fs : List (List UInt8)} {z : Value} (hn : n = fs.length) (hg : w.heap[g]? = some (.cells cur 9 (0, 0))) (htk : cur.toList.take (n + 1) = fs.map encStr ++ [z]) (hsz : cur.size = cap) (hle : n + 1 ≤ cap) (hi : i ≤ n) :
   ∃ v w' cur' z', (Builtin.copy_ #[37, 37] ty #[.slice (cutP g cap (i + 1)) (n + 1 - (i + 1)) (cap - (i + 1)), .slice (cutP g cap i) (n + 1 - i) (cap - i)]).run Tryz.prog w = .ok v w' ∧ w'.heap[g]? = some (.cells cur' 9 (0, 0)) ∧ cur'.size = cap ∧ cur'.toList.take (n + 1) = (fs.take i).map encStr ++ z' :: (fs.drop i).map encStr ∧ U.Chg (fun k => k = g) w w' := by
 subst hn
 by_cases hin : i = fs.length
 · subst hin
   refine ⟨_, w, cur, z, run_copy_none w 37 37 ty 9 _ _ _ _ _ _ Tryz.underlying37 (by kernel_rfl) (by simp), hg, hsz, ?_, ⟨rfl, rfl, rfl, Nat.le_refl _, fun _ _ _ => rfl⟩⟩
   rw [htk, List.take_length, List.drop_length]
   rfl
 · have hlt : i < fs.length := by omega
   have e1 : cutP g cap (i + 1) = some ⟨g, i + 1, none⟩ := by unfold cutP; rw [if_neg (by omega)]
   have e2 : cutP g cap i = some ⟨g, i, none⟩ := by unfold cutP; rw [if_neg (by omega)]
   have hcs : ((fs.drop i).map encStr).length = fs.length - i := by simp
   have hcur : ∀ j (hj : j < fs.length), cur[j]? = some (encStr fs[j]) := fun j hj => by
     have h1 : (cur.toList.take (fs.length + 1))[j]? = (fs.map encStr ++ [z])[j]? := by rw [htk]
     rw [List.getElem?_take, if_pos (by omega), List.getElem?_append_left (by simpa using hj)] at h1
     simpa [hj] using h1
   have hrun := run_copy_row (P := Tryz.prog) w 37 37 ty 9 g (i + 1) (fs.length + 1 - (i + 1)) (cap - (i + 1)) ⟨g, i, none⟩ (fs.length + 1 - i) (cap - i) cur 9 ((fs.drop i).map encStr) Tryz.underlying37 (by kernel_rfl) hg
     (by rw [hcs]; show _ = min _ _; omega)
     (fun j v hv => by
       have hj : j < fs.length - i := by
         have := (List.getElem?_eq_some_iff.1 hv).1
         rw [hcs] at this
         exact this
       rw [Addr.add_mid]
       refine U.cell_at hg ?_
       rw [hcur (i + j) (by omega), ← hv]
       simp [List.getElem?_drop, List.getElem?_eq_getElem (show i + j < fs.length by omega)])
     (by rw [hcs]; omega) (fun v hv => by obtain ⟨x, _, rfl⟩ := List.mem_map.1 hv; rfl)
   rw [e1, e2]
   refine ⟨_, _, _, encStr fs[i], hrun, setRow_heap w g cur _ 9 _ hg, ?_, ?_, ⟨rfl, rfl, rfl, by simp [World.setRow], fun k hk hne => setRow_other w g k _ hne⟩⟩
   · simp
     omega
   · have e3 : cur.toList.take (i + 1) = (fs.take i).map encStr ++ [encStr fs[i]] := by
       have : cur.toList.take (i + 1) = (cur.toList.take (fs.length + 1)).take (i + 1) := by rw [List.take_take, Nat.min_eq_left (by omega)]
       rw [this, htk, List.take_append_of_le_length (by rw [List.length_map]; omega), List.take_succ_eq_append_getElem (by rw [List.length_map]; exact hlt), List.getElem_map, List.map_take]
     simp only [List.append_assoc]
     rw [← List.append_assoc, List.take_append_of_le_length (by rw [List.length_append, hcs, List.length_take]; simp; omega), List.take_of_length_le (by rw [List.length_append, hcs, List.length_take]; simp; omega), e3]
     simp
theorem ins_store {w : World} {B g n cap i : Nat} {cur : Array Value} {fs : List (List UInt8)} {z : Value} (r : List UInt8) (hn : n = fs.length) (hi : i ≤ n) (hB : B ≤ g) (hg : w.heap[g]? = some (.cells cur 9 (0, 0))) (hsz : cur.size = cap) (hle : n + 1 ≤ cap) (hmx : cap ≤ maxLen) (htk : cur.toList.take (n + 1) = (fs.take i).map encStr ++ z :: (fs.drop i).map encStr) :
   OwnN (w.setCell ⟨g, i, none⟩ (encStr r)) B (.slice (some ⟨g, 0, none⟩) (n + 1) cap) (fs.take i ++ r :: fs.drop i) := by
 subst hn
 have hl : (fs.take i ++ r :: fs.drop i).length = fs.length + 1 := by simp; omega
 unfold OwnN
 rw [hl]
 refine ⟨by simp; omega, .inr ⟨g, cap, _, rfl, hB, (U.set_at _ hg), hle, hmx, by simp [hsz], ?_⟩⟩
 rw [Nat.mul_one, Array.toList_setIfInBounds, List.take_set, htk, List.set_append_right _ _ (by simp; omega)]
 simp only [List.length_map, List.length_take, Nat.min_eq_left hi, Nat.sub_self, List.set_cons_zero, List.map_append, List.map_cons]
theorem one_newS (w : World) (x : Value) (t : TypeId) : ∀ j u, [x][j]? = some u → (w.alloc (.cells #[x] t)).cell? ((⟨w.heap.size, 0, none⟩ : Addr).add j) = some u := by
 intro j u hj
 rw [Addr.add_mid]
 match j, hj with
 | 0, hj => simp at hj; subst hj; exact (Boxed.new w t x).cell
 | j + 1, hj => simp at hj
theorem ownN_cells {w : World} {B n : Nat} {v : Value} {ss : List (List UInt8)} (ho : OwnN w B v ss) (hn : ss.length = n) : ∃ ao cap, v = .slice ao n cap ∧ ∀ j (hj : j < ss.length), ∃ g, ao = some ⟨g, 0, none⟩ ∧ ∀ W : World, OwnN W B v ss → W.cell? ⟨g, j, none⟩ = some (encStr ss[j]) := by
 subst hn
 obtain ⟨_, ⟨rfl, h0⟩ | ⟨g, cap, cur, rfl, _⟩⟩ := ho
 · exact ⟨none, 0, by rw [h0], fun j hj => by omega⟩
 · refine ⟨_, _, rfl, fun j hj => ⟨g, rfl, fun W hW => ?_⟩⟩
   obtain ⟨_, ⟨h1, _⟩ | ⟨g', cap', cur', h1, _, h2, h3, h4, h5, h6⟩⟩ := hW
   · cases h1
   · cases h1
     refine U.cell_at h2 ?_
     have h7 : (cur'.toList.take (ss.length * 1))[j]? = (ss.map encStr)[j]? := by rw [h6]
     rw [List.getElem?_take, if_pos (by omega)] at h7
     simpa [hj] using h7
theorem ins_frame {B g n cap i : Nat} {ao : Option Addr} {ss : List (List UInt8)} {wr w1 w2 : World} {cur : Array Value} {o : Obj} (x : Value) (ho : OwnN wr B (.slice ao n cap) ss) (hB : B ≤ wr.heap.size) (hgrow : (wr.alloc o).grownBy w1 (Value.ownBlock (.slice ao n cap))) (hg : w1.heap[g]? = some (.cells cur 9 (0, 0))) (hBg : B ≤ g) (hch : U.Chg (fun k => k = g) w1.drew w2) :
   KN wr w2 ∧ KN wr (w2.setCell ⟨g, i, none⟩ x) ∧ Below B wr (w2.setCell ⟨g, i, none⟩ x) := by
 have h1 : KN wr w1 := (KN.of (al1 wr o)).trans (KN.own (ho.alloc o) hgrow)
 have b1 : Below B wr w1 := ((al1 wr o).mono hB).trans ((ho.alloc o).bel hgrow (by simp; omega))
 have hgl : g < w1.heap.size := (Array.getElem?_eq_some_iff.1 hg).1
 have h2 : KN w1 w2 := fun k o' e1 e2 => by
   by_cases hk : k = g
   · subst hk; rw [hg] at e1; cases e1; cases e2
   · exact (hch.block k (Array.getElem?_eq_some_iff.1 e1).1 hk).trans e1
 have b2 : Below B w1 w2 := ⟨hch.os, hch.tape, hch.output, hch.size, fun k hk => hch.block k (by show k < w1.heap.size; omega) (by omega)⟩
 have h3 : KN w1 (w2.setCell ⟨g, i, none⟩ x) := fun k o' e1 e2 => by
   by_cases hk : k = g
   · subst hk; rw [hg] at e1; cases e1; cases e2
   · exact (Below.heap_setCell _ _ _ _ hk).trans (h2 k o' e1 e2)
 exact ⟨h1.trans h2, h1.trans h3, b1.trans (b2.setCell hBg _)⟩
def NmP (t : T) : Prop := ∀ (B : Nat) (w0 : World) (d : ND) (w : World) (v : Value) (ss : List (List UInt8)), w0.heap.size = B → Below B w0 w → TR w0 (fun _ => True) t d.v → OwnN w B v ss → ss.Pairwise (· < ·) → ss.length + sz t ≤ 1000000 →
 Calls Tryz.prog 60 #[d.v, v] w fun e w' => ∃ u ss', e = .returned u ∧ OwnN w' B u ss' ∧ E.NmR ss (E.vnk (E.pre t t)) ss' ∧ Below B w0 w' ∧ KN w w'
set_option maxRecDepth 100000 in
set_option maxHeartbeats 4000000 in
theorem names_step (k a : Int) (s : E.Rs) (nm : List UInt8) (ks : List T) (hnl : nm.length ≤ 100000) (ih : ∀ t ∈ ks, NmP t) : NmP (.mk k a s nm ks) := by
 intro B w0 d w v ss hW hBW hd ho hp hz
 have HW := hide hW
 have HBW := hide hBW
 have HSZ : Hid (ss.length + (1 + sK ks) ≤ 1000000) := hide (by have := sz_eq (.mk k a s nm ks); simp only [E.T.kids] at this; omega)
 have hn6 : ss.length ≤ 1000000 := by omega
 have hkl : ks.length ≤ 1000000 := by
   have h1 : ∀ l : List T, l.length ≤ sK l := fun l => by
     induction l with
     | nil => simp
     | cons x l ih =>
       unfold sK at ih ⊢
       rw [List.flatMap_cons, List.length_append, List.length_cons, E.pre_eq, List.length_cons]
       omega
   have := h1 ks
   have := HSZ.out
   omega
 have HP := hide hp
 have HO0 := hide ho
 rw [TR] at hd
 obtain ⟨sp, sc, kp, kc, e1, _, hk1, hkr1⟩ := hd
 rw [e1]
 clear e1 hz hp ho hBW hW
 have a1 := al1 w (.cells #[.int .i64 k, .int .i64 a, .slice sp s.length sc, .string ⟨nm.toArray⟩, .slice kp ks.length kc] 26)
 have n1 := heap_alloc_new w (.cells #[.int .i64 k, .int .i64 a, .slice sp s.length sc, .string ⟨nm.toArray⟩, .slice kp ks.length kc] 26)
 obtain ⟨X1, hX1⟩ : ∃ X1, w.alloc (.cells #[.int .i64 k, .int .i64 a, .slice sp s.length sc, .string ⟨nm.toArray⟩, .slice kp ks.length kc] 26) = X1 := ⟨_, rfl⟩
 have ho1 : OwnN X1 B v ss := by rw [← hX1]; exact HO0.out.alloc _
 rw [hX1] at a1 n1
 have hbs : B ≤ w.heap.size := by have := HBW.out.size; have := HW.out; omega
 have hb1 : Below B w0 X1 := HBW.out.trans (a1.mono hbs)
 have hkn1 : KN w X1 := KN.of a1
 obtain ⟨c0, c1, c2, c3, c4⟩ := cells_five n1
 have HV0 := hide (E.vnk_eq (.mk k a s nm ks))
 simp only [E.T.kind, E.T.name, E.T.kids] at HV0
 by_cases hk : k = 2
 · subst hk
   have HV : Hid (E.vnk (E.pre (.mk 2 a s nm ks) (.mk 2 a s nm ks)) = [nm] ++ E.vnK ks) := hide (by rw [HV0.out]; simp)
   obtain ⟨i0, hi0, hz0, hz1, hz2⟩ := info_parts9 info9N
   obtain ⟨n, hn⟩ : ∃ n, ss.length = n := ⟨_, rfl⟩
   have HN : Hid (n = ss.length) := hide hn.symm
   obtain ⟨ao, cap, rfl, hcell⟩ : ∃ ao cap, v = .slice ao n cap ∧ ∀ j (hj : j < ss.length), ∃ g, ao = some ⟨g, 0, none⟩ ∧ ∀ W : World, OwnN W B v ss → W.cell? ⟨g, j, none⟩ = some (encStr ss[j]) := ownN_cells ho1 hn
   have HOB := hide ho1
   rw [hn] at hn6
   clear ho1 hn
   have HB1 := hide hb1
   have HK1 := hide hkn1
   have HBS := hide hbs
   have hXl : w.heap.size < X1.heap.size := (Array.getElem?_eq_some_iff.1 n1).1
   clear hb1 hkn1 hbs a1
   go_enter Tryz.func60, Tryz.ntmps60
   go_wp2
   go_loopw [5] (fun u wr => ∃ i : Nat, u = .int .i64 (i : Int) ∧ i ≤ n ∧ Hid (∀ x ∈ ss.take i, x < nm) ∧ Hid (OwnN wr B (.slice ao n cap) ss) ∧ wr.heap[w.heap.size]? = some (.cells #[.int .i64 2, .int .i64 a, .slice sp s.length sc, .string ⟨nm.toArray⟩, .slice kp ks.length kc] 26) ∧ Hid (Below B w0 wr) ∧ w.heap.size < wr.heap.size ∧ Hid (KN w wr)) (fun u _ => n - (intOf u).toNat)
   case atStart => exact ⟨0, rfl, Nat.zero_le _, hide (fun x hx => by simp at hx), HOB, n1, HB1, hXl, HK1⟩
   case round =>
     obtain ⟨i, rfl, hin, HL, HO, m1, HB, hwl, HK⟩ := hrel
     clear c0 c1 c2 c3 c4 n1 HB1 HK1 hXl HOB hX1
     obtain ⟨c0, c1, c2, c3, c4⟩ := cells_five m1
     by_cases hlt : i < n
     · have hlf : i < ss.length := by rw [← HN.out]; exact hlt
       obtain ⟨b, rfl, hd0⟩ := hcell i hlf
       have hd := hd0 wr HO.out
       have HX : Hid (ss.take (i + 1) = ss.take i ++ [ss[i]]) := hide (List.take_succ_eq_append_getElem hlf)
       have HDG := hide (fun x h1 h2 => E.drop_gt HP.out hlf (x := x) h1 h2)
       have HM := hide (List.getElem_mem hlf)
       have en := elemSize37
       clear hd0 hcell
       generalize ss[i] = x at *
       by_cases h1 : x < nm
       · have e1 : Op.bytesLess x nm = true := by rw [_root_.Go.Proofs.bytesLess_eq]; exact decide_eq_true h1
         have HL2 : Hid (∀ y ∈ ss.take (i + 1), y < nm) := hide (fun y hy => by rw [HX.out] at hy; exact (List.mem_append.1 hy).elim (HL.out y) (fun h => by rw [List.mem_singleton] at h; rw [h]; exact h1))
         clear h1 HX HDG HM HL
         go_wp2_with fail
         go_quiet (fail)
         have hO2 : Hid (OwnN (wr.drewN nq) B (.slice (some ⟨b, 0, none⟩) n cap) ss) := HO
         have m2 : (wr.drewN nq).heap[w.heap.size]? = _ := m1
         have HB2 : Hid (Below B w0 (wr.drewN nq)) := hide (_root_.Go.below_drewN HB.out nq)
         have HK2 : Hid (KN w (wr.drewN nq)) := HK
         have hw2 : w.heap.size < (wr.drewN nq).heap.size := hwl
         clear HO m1 HB HK hwl c0 c1 c2 c3 c4 hd
         generalize wr.drewN nq = W2 at *
         go_wp2
         go_roundw
         case rel => exact ⟨i + 1, by go_num, by omega, HL2, hO2, m2, HB2, hw2, HK2⟩
         case measure => simp [intOf]; omega
       · have e1 : Op.bytesLess x nm = false := by rw [_root_.Go.Proofs.bytesLess_eq]; exact decide_eq_false h1
         have e5 : ((i : Int) == (n : Int)) = false := by simp; omega
         have e6 : (i == n) = false := by simp; omega
         have e7 : decide (i = n) = false := decide_eq_false (by omega)
         by_cases h2 : x = nm
         · subst h2
           obtain ⟨NS, hNS⟩ : ∃ NS : List (List UInt8), NS = [x] := ⟨_, rfl⟩
           have HV : Hid (E.vnk (E.pre (.mk 2 a s x ks) (.mk 2 a s x ks)) = NS ++ E.vnK ks) := hide (by rw [HV.out, hNS])
           have HNS : Hid (NS.length ≤ 1) := hide (by rw [hNS]; simp)
           have HR0 : Hid (E.NmR ss NS ss) := hide (by rw [hNS]; exact E.nmR_in HP.out HM.out)
           clear hNS h1 HX HDG HM HL
           go_wp2_with fail
           go_quiet (fail)
           have hO_ : Hid (OwnN (wr.drewN nq) B (.slice (some ⟨b, 0, none⟩) n cap) ss) := HO
           have m_ : (wr.drewN nq).heap[w.heap.size]? = _ := m1
           have HB_ : Hid (Below B w0 (wr.drewN nq)) := hide (_root_.Go.below_drewN HB.out nq)
           have HK_ : Hid (KN w (wr.drewN nq)) := HK
           have hw_ : w.heap.size < (wr.drewN nq).heap.size := hwl
           have hd_ : (wr.drewN nq).cell? ⟨b, i, none⟩ = _ := hd
           clear hd
           have hd := hd_
           clear HO m1 HB HK hwl c0 c1 c2 c3 c4
           have HO := hO_
           have m1 := m_
           have HB := HB_
           have HK := HK_
           have hwl := hw_
           clear hO_ m_ HB_ HK_ hw_ hd_
           generalize wr.drewN nq = W2 at *
           obtain ⟨c0, c1, c2, c3, c4⟩ := cells_five m1
           go_wp2_with fail
           go_quiet (fail)
           have hO_ : Hid (OwnN (W2.drewN nq) B (.slice (some ⟨b, 0, none⟩) n cap) ss) := HO
           have m_ : (W2.drewN nq).heap[w.heap.size]? = _ := m1
           have HB_ : Hid (Below B w0 (W2.drewN nq)) := hide (_root_.Go.below_drewN HB.out nq)
           have HK_ : Hid (KN w (W2.drewN nq)) := HK
           have hw_ : w.heap.size < (W2.drewN nq).heap.size := hwl
           have hd_ : (W2.drewN nq).cell? ⟨b, i, none⟩ = _ := hd
           clear hd
           have hd := hd_
           clear HO m1 HB HK hwl c0 c1 c2 c3 c4
           have HO := hO_
           have m1 := m_
           have HB := HB_
           have HK := HK_
           have hwl := hw_
           clear hO_ m_ HB_ HK_ hw_ hd_
           generalize W2.drewN nq = W3 at *
           obtain ⟨c0, c1, c2, c3, c4⟩ := cells_five m1
           have PO := HO
           have p1 := m1
           have PB := HB
           have PK := HK
           clear HO m1 HB HK hwl hd
           go_wp2
           go_loopw [1, 6] (fun p u wr => ∃ (sr : List (List UInt8)) (i : Nat), u = .int .i64 (i : Int) ∧ i ≤ ks.length ∧ Hid (E.NmR ss (NS ++ E.vnK (ks.take i)) sr) ∧ Hid (OwnN wr B p sr) ∧ wr.heap[w.heap.size]? = some (.cells #[.int .i64 2, .int .i64 a, .slice sp s.length sc, .string ⟨x.toArray⟩, .slice kp ks.length kc] 26) ∧ Hid (Below B w0 wr) ∧ w.heap.size < wr.heap.size ∧ Hid (KN w wr)) (fun _ u _ => ks.length - (intOf u).toNat)
           case atStart => exact ⟨_, 0, rfl, Nat.zero_le _, hide (by rw [List.take_zero, show E.vnK [] = [] from rfl, List.append_nil]; exact HR0.out), hide PO.out, p1, hide PB.out, (Array.getElem?_eq_some_iff.1 p1).1, hide PK.out⟩
           case round =>
             obtain ⟨sr, i, rfl, hi, HR, HO, m1, HB, hwl, HK⟩ := hrel
             clear c0 c1 c2 c3 c4 p1 PO PB PK
             obtain ⟨c0, c1, c2, c3, c4⟩ := cells_five m1
             by_cases hlt : i < ks.length
             · obtain ⟨b, off, v, hkp, ht1, hc1⟩ := KR.get _ 0 hkr1 i hlt
               obtain ⟨d1, rfl⟩ := ht1.ndD
               subst hkp
               rw [Nat.zero_add] at hc1
               have hl1 := cells5_lt hc1
               have HX : Hid (E.vnK (ks.take (i + 1)) = E.vnK (ks.take i) ++ E.vnk (E.pre ks[i] ks[i])) := hide (by rw [List.take_succ_eq_append_getElem hlt, E.vnK_snoc])
               have hbd : sr.length + sz ks[i] ≤ 1000000 := by
                 have h1 := HR.out.2.2
                 rw [List.length_append] at h1
                 have h2 := E.vnK_le (ks.take i)
                 have h3 : sK (ks.take (i + 1)) = sK (ks.take i) + sz ks[i] := by rw [List.take_succ_eq_append_getElem hlt, sK_snoc]
                 have h4 := sK_le (ks.take (i + 1)) (ks.drop (i + 1))
                 rw [List.take_append_drop] at h4
                 have := HNS.out
                 have := HSZ.out
                 omega
               have hcl := ih ks[i] (List.getElem_mem hlt) B w0 d1 wr _ sr HW.out HB.out ht1 HO.out HR.out.1 hbd
               obtain ⟨y0, y1, y2, y3, y4, ev, g0, g1, g2, g3, g4⟩ := hc1
               unfold ND.v at hcl ev
               simp only [Value.agg.injEq, Array.mk.injEq, List.cons.injEq, and_true] at ev
               obtain ⟨rfl, rfl, rfl, rfl, rfl⟩ := ev
               have hcb : ∀ j, wr.cell? ⟨b, j, none⟩ = w0.cell? ⟨b, j, none⟩ := fun j => World.cell?_of_block (w := w0) (a := ⟨b, j, none⟩) (HB.out.block b (by have := HW.out; omega))
               rw [← hcb] at g0 g1 g2 g3 g4
               clear ht1 hcb hbd
               go_wp2_with fail
               with_reducible refine hcl.mono ?_
               rintro e W4 ⟨u4, s4, rfl, ho4, hr4, hb4, hk4⟩
               have M1 := hide (hk4 _ _ m1 rfl)
               have HR2 : Hid (E.NmR ss (NS ++ E.vnK (ks.take (i + 1))) s4) := hide (by rw [HX.out, ← List.append_assoc]; exact E.nmR_trans HR.out hr4)
               have HO2 := hide ho4
               have HB2 := hide hb4
               have HK2 := hide (HK.out.trans hk4)
               have hwl4 : w.heap.size < W4.heap.size := (Array.getElem?_eq_some_iff.1 M1.out).1
               clear m1 hcl ho4 hr4 hb4 hk4 c0 c1 c2 c3 c4 g0 g1 g2 g3 g4
               go_wp2
               go_roundw
               case rel => exact ⟨_, i + 1, by go_num, by omega, HR2, HO2, M1.out, HB2, hwl4, HK2⟩
               case measure => simp [intOf]; omega
             · obtain rfl : i = ks.length := by omega
               have HF : Hid (E.NmR ss (E.vnk (E.pre (.mk 2 a s x ks) (.mk 2 a s x ks))) sr) := hide (by have h := HR.out; rw [List.take_length] at h; rw [HV.out]; exact h)
               go_wp2
               go_ret
               exact ⟨_, _, rfl, HO.out, HF.out, HB.out, HK.out⟩
         · have e8 : (x == nm) = false := by simpa using h2
           have HINS := hide (E.nmR_ins HP.out i HL.out (HDG.out nm h1 h2))
           clear h1 h2 HX HDG HM
           go_wp2_with fail
           go_quiet (fail)
           have hO_ : Hid (OwnN (wr.drewN nq) B (.slice (some ⟨b, 0, none⟩) n cap) ss) := HO
           have m_ : (wr.drewN nq).heap[w.heap.size]? = _ := m1
           have HB_ : Hid (Below B w0 (wr.drewN nq)) := hide (_root_.Go.below_drewN HB.out nq)
           have HK_ : Hid (KN w (wr.drewN nq)) := HK
           have hw_ : w.heap.size < (wr.drewN nq).heap.size := hwl
           have hd_ : (wr.drewN nq).cell? ⟨b, i, none⟩ = _ := hd
           clear hd
           have hd := hd_
           clear HO m1 HB HK hwl c0 c1 c2 c3 c4
           have HO := hO_
           have m1 := m_
           have HB := HB_
           have HK := HK_
           have hwl := hw_
           clear hO_ m_ HB_ HK_ hw_ hd_
           generalize wr.drewN nq = W2 at *
           obtain ⟨c0, c1, c2, c3, c4⟩ := cells_five m1
           go_wp2_with fail
           go_quiet (fail)
           have hO_ : Hid (OwnN (W2.drewN nq) B (.slice (some ⟨b, 0, none⟩) n cap) ss) := HO
           have m_ : (W2.drewN nq).heap[w.heap.size]? = _ := m1
           have HB_ : Hid (Below B w0 (W2.drewN nq)) := hide (_root_.Go.below_drewN HB.out nq)
           have HK_ : Hid (KN w (W2.drewN nq)) := HK
           have hw_ : w.heap.size < (W2.drewN nq).heap.size := hwl
           have hd_ : (W2.drewN nq).cell? ⟨b, i, none⟩ = _ := hd
           clear hd
           have hd := hd_
           clear HO m1 HB HK hwl c0 c1 c2 c3 c4
           have HO := hO_
           have m1 := m_
           have HB := HB_
           have HK := HK_
           have hwl := hw_
           clear hO_ m_ HB_ HK_ hw_ hd_
           generalize W2.drewN nq = W3 at *
           obtain ⟨c0, c1, c2, c3, c4⟩ := cells_five m1
           obtain ⟨NS, hNS⟩ : ∃ NS : List (List UInt8), NS = [nm] := ⟨_, rfl⟩
           have HV : Hid (E.vnk (E.pre (.mk 2 a s nm ks) (.mk 2 a s nm ks)) = NS ++ E.vnK ks) := hide (by rw [HV.out, hNS])
           have HNS : Hid (NS.length ≤ 1) := hide (by rw [hNS]; simp)
           have HR0 : Hid (E.NmR ss NS (ss.take i ++ nm :: ss.drop i)) := hide (by rw [hNS]; exact HINS.out)
           have hBl : B ≤ W3.heap.size := by have := HBS.out; omega
           have hOa : (W3.alloc (.cells #[.string ByteArray.empty] 9)).ownsRow B 9 1 (.slice (some ⟨b, 0, none⟩) n cap) n (ss.map encStr) := by
             have h := OwnN.alloc HO.out (.cells #[.string ByteArray.empty] 9)
             unfold OwnN at h
             rw [← HN.out] at h
             exact h
           clear hNS HINS
           go_wp2_with (at_builtin; (refine wpList_append_own_at _ rfl _ _ 37 rfl B 9 i0 (.string ByteArray.empty) 1 16 Tryz.underlying37 hi0 hz0 hz1 hz2 rfl (by decide) _ _ _ rfl hOa ⟨W3.heap.size, 0, none⟩ 1 1 [.string ByteArray.empty] rfl rfl (one_newS _ _ _) (by simp [Value.oneCell']) (by unfold maxLen; omega) (by omega) (by simp; omega) ?_; intro v1 w1 hown' hgrow _ hat; obtain ⟨hxl, ⟨hv, hn0⟩ | ⟨g, cap1, cur, rfl, hBg, hg, hle, hmx, hsz, htk⟩⟩ := hown'; (exact absurd hn0 (by omega))))
           rw [Nat.mul_one] at hsz htk
           obtain ⟨vc, w2, cur2, z2, hcp, hg2, hsz2, htk2, hch2⟩ := ins_mem 3 (w := w1.drew) HN.out hg htk hsz hle hin
           have hii : IntKind.i64.wrap ((i : Int) + 1) = (i : Int) + 1 := by simp [IntKind.wrap, IntKind.bits, IntKind.signed]; omega
           obtain ⟨f1, f2, f3⟩ := ins_frame (i := i) (encStr nm) HO.out hBl hgrow hg hBg hch2
           have m2 := f1 _ _ m1 rfl
           have k1 : ∀ w', (Instr.sliceAt 37 (.slice (some ⟨g, 0, none⟩) (n + 1) cap1) (some (.int .i64 ((i : Int) + 1))) none none).run Tryz.prog w' = _ := fun w' => cut_fromN g (n + 1) cap1 (i + 1) (by omega) w'
           have k2 := fun w' => cut_fromN g (n + 1) cap1 i (by omega) w'
           obtain ⟨P1, hP1⟩ : ∃ P1, cutP g cap1 (i + 1) = P1 := ⟨_, rfl⟩
           obtain ⟨P2, hP2⟩ : ∃ P2, cutP g cap1 i = P2 := ⟨_, rfl⟩
           obtain ⟨l1, hl1⟩ : ∃ l1, n + 1 - (i + 1) = l1 := ⟨_, rfl⟩
           obtain ⟨l2, hl2⟩ : ∃ l2, cap1 - (i + 1) = l2 := ⟨_, rfl⟩
           obtain ⟨l3, hl3⟩ : ∃ l3, n + 1 - i = l3 := ⟨_, rfl⟩
           obtain ⟨l4, hl4⟩ : ∃ l4, cap1 - i = l4 := ⟨_, rfl⟩
           rw [hP1, hP2, hl1, hl2, hl3, hl4] at hcp
           rw [hP1, hl1, hl2] at k1
           rw [hP2, hl3, hl4] at k2
           clear hP1 hP2 hl1 hl2 hl3 hl4
           refine Reg.start (B := B) (by kernel_rfl) ?_
           refine Reg.take (fun _ _ _ _ _ h => h) 0 _ 41 (.slice (some ⟨g, 0, none⟩) (n + 1) cap1) rfl (by kernel_rfl) (by kernel_rfl) (by kernel_rfl) rfl (by kernel_rfl) (by kernel_rfl) (fun _ _ => Reg.mv7 rfl rfl) ?_
           refine Reg.take (fun _ _ _ _ _ h => h) 1 _ 42 (.int .i64 (i : Int)) rfl (by kernel_rfl) (by kernel_rfl) (by kernel_rfl) rfl (by kernel_rfl) (by kernel_rfl) (fun _ _ => Reg.mv7 rfl rfl) ?_
           refine Reg.take (fun _ _ _ _ _ h => h) 2 _ 43 (.int .i64 ((i : Int) + 1)) rfl (by kernel_rfl) (by kernel_rfl) (by kernel_rfl) rfl (by kernel_rfl) (by kernel_rfl) (fun _ _ => Reg.adI rfl rfl rfl hii) ?_
           refine Reg.take (fun _ _ _ _ _ h => h) 3 _ 44 (.slice P1 l1 l2) rfl (by kernel_rfl) (by kernel_rfl) (by kernel_rfl) rfl (by kernel_rfl) (by kernel_rfl) (fun w' _ => Reg.sl rfl rfl rfl (k1 w')) ?_
           refine Reg.take (fun _ _ _ _ _ h => h) 4 _ 45 (.slice (some ⟨g, 0, none⟩) (n + 1) cap1) rfl (by kernel_rfl) (by kernel_rfl) (by kernel_rfl) rfl (by kernel_rfl) (by kernel_rfl) (fun _ _ => Reg.mv7 rfl rfl) ?_
           refine Reg.take (fun _ _ _ _ _ h => h) 5 _ 46 (.int .i64 (i : Int)) rfl (by kernel_rfl) (by kernel_rfl) (by kernel_rfl) rfl (by kernel_rfl) (by kernel_rfl) (fun _ _ => Reg.mv7 rfl rfl) ?_
           refine Reg.take (fun _ _ _ _ _ h => h) 6 _ 47 (.slice P2 l3 l4) rfl (by kernel_rfl) (by kernel_rfl) (by kernel_rfl) rfl (by kernel_rfl) (by kernel_rfl) (fun w' _ => Reg.sl rfl rfl rfl (k2 w')) ?_
           refine Reg.only 7 _ 48 rfl (by kernel_rfl) rfl (by kernel_rfl) rfl ⟨vc, w2, B, Reg.cpy rfl rfl rfl hcp, Nat.le_refl _, ⟨hch2.os, hch2.tape, hch2.output, hch2.size, fun k hk => hch2.block k (by have := (Array.getElem?_eq_some_iff.1 hg).1; show k < w1.heap.size; omega) (by omega)⟩, ?_⟩
           refine Reg.done (by kernel_rfl) ?_
           simp only [Reg.ov, Act.put, List.setIfInBounds_toArray, List.set_cons_succ, List.set_cons_zero]
           have hc2 : w2.cell? ⟨g, i, none⟩ = some z2 := U.cell_at hg2 (by have h1 : (cur2.toList.take (n + 1))[i]? = ((ss.take i).map encStr ++ z2 :: (ss.drop i).map encStr)[i]? := (by rw [htk2]); rw [List.getElem?_take, if_pos (by omega), List.getElem?_append_right (by simp; omega)] at h1; simpa [Nat.min_eq_left (show i ≤ ss.length by have := HN.out; omega)] using h1)
           have hf2 : w2.frozen? ⟨g, i, none⟩ = false := U.frozen_at hg2
           have HO4 := hide (ins_store nm HN.out hin hBg hg2 hsz2 hle hmx htk2)
           have m4 := f2 _ _ m1 rfl
           have HB4 := hide (HB.out.trans f3)
           have HK4 := hide (HK.out.trans f2)
           have en := elemSize37
           clear hcp k1 k2 hg2 htk2 hsz2 hg htk hsz hxl c0 c1 c2 c3 c4 f1 f2 f3 hgrow hch2 hOa HO m1 HB HK
           obtain ⟨c0, c1, c2, c3, c4⟩ := cells_five m2
           go_wp2
           clear c0 c1 c2 c3 c4 m2 hc2 hf2
           obtain ⟨c0, c1, c2, c3, c4⟩ := cells_five m4
           go_loopw [1, 6] (fun p u wr => ∃ (sr : List (List UInt8)) (i : Nat), u = .int .i64 (i : Int) ∧ i ≤ ks.length ∧ Hid (E.NmR ss (NS ++ E.vnK (ks.take i)) sr) ∧ Hid (OwnN wr B p sr) ∧ wr.heap[w.heap.size]? = some (.cells #[.int .i64 2, .int .i64 a, .slice sp s.length sc, .string ⟨nm.toArray⟩, .slice kp ks.length kc] 26) ∧ Hid (Below B w0 wr) ∧ w.heap.size < wr.heap.size ∧ Hid (KN w wr)) (fun _ u _ => ks.length - (intOf u).toNat)
           case atStart => exact ⟨_, 0, rfl, Nat.zero_le _, hide (by rw [List.take_zero, show E.vnK [] = [] from rfl, List.append_nil]; exact HR0.out), hide HO4.out, m4, hide HB4.out, (Array.getElem?_eq_some_iff.1 m4).1, hide HK4.out⟩
           case round =>
             obtain ⟨sr, i, rfl, hi, HR, HO, m1, HB, hwl, HK⟩ := hrel
             clear c0 c1 c2 c3 c4 m4 HO4 HB4 HK4
             obtain ⟨c0, c1, c2, c3, c4⟩ := cells_five m1
             by_cases hlt : i < ks.length
             · obtain ⟨b, off, v, hkp, ht1, hc1⟩ := KR.get _ 0 hkr1 i hlt
               obtain ⟨d1, rfl⟩ := ht1.ndD
               subst hkp
               rw [Nat.zero_add] at hc1
               have hl1 := cells5_lt hc1
               have HX : Hid (E.vnK (ks.take (i + 1)) = E.vnK (ks.take i) ++ E.vnk (E.pre ks[i] ks[i])) := hide (by rw [List.take_succ_eq_append_getElem hlt, E.vnK_snoc])
               have hbd : sr.length + sz ks[i] ≤ 1000000 := by
                 have h1 := HR.out.2.2
                 rw [List.length_append] at h1
                 have h2 := E.vnK_le (ks.take i)
                 have h3 : sK (ks.take (i + 1)) = sK (ks.take i) + sz ks[i] := by rw [List.take_succ_eq_append_getElem hlt, sK_snoc]
                 have h4 := sK_le (ks.take (i + 1)) (ks.drop (i + 1))
                 rw [List.take_append_drop] at h4
                 have := HNS.out
                 have := HSZ.out
                 omega
               have hcl := ih ks[i] (List.getElem_mem hlt) B w0 d1 wr _ sr HW.out HB.out ht1 HO.out HR.out.1 hbd
               obtain ⟨y0, y1, y2, y3, y4, ev, g0, g1, g2, g3, g4⟩ := hc1
               unfold ND.v at hcl ev
               simp only [Value.agg.injEq, Array.mk.injEq, List.cons.injEq, and_true] at ev
               obtain ⟨rfl, rfl, rfl, rfl, rfl⟩ := ev
               have hcb : ∀ j, wr.cell? ⟨b, j, none⟩ = w0.cell? ⟨b, j, none⟩ := fun j => World.cell?_of_block (w := w0) (a := ⟨b, j, none⟩) (HB.out.block b (by have := HW.out; omega))
               rw [← hcb] at g0 g1 g2 g3 g4
               clear ht1 hcb hbd
               go_wp2_with fail
               with_reducible refine hcl.mono ?_
               rintro e W4 ⟨u4, s4, rfl, ho4, hr4, hb4, hk4⟩
               have M1 := hide (hk4 _ _ m1 rfl)
               have HR2 : Hid (E.NmR ss (NS ++ E.vnK (ks.take (i + 1))) s4) := hide (by rw [HX.out, ← List.append_assoc]; exact E.nmR_trans HR.out hr4)
               have HO2 := hide ho4
               have HB2 := hide hb4
               have HK2 := hide (HK.out.trans hk4)
               have hwl4 : w.heap.size < W4.heap.size := (Array.getElem?_eq_some_iff.1 M1.out).1
               clear m1 hcl ho4 hr4 hb4 hk4 c0 c1 c2 c3 c4 g0 g1 g2 g3 g4
               go_wp2
               go_roundw
               case rel => exact ⟨_, i + 1, by go_num, by omega, HR2, HO2, M1.out, HB2, hwl4, HK2⟩
               case measure => simp [intOf]; omega
             · obtain rfl : i = ks.length := by omega
               have HF : Hid (E.NmR ss (E.vnk (E.pre (.mk 2 a s nm ks) (.mk 2 a s nm ks))) sr) := hide (by have h := HR.out; rw [List.take_length] at h; rw [HV.out]; exact h)
               go_wp2
               go_ret
               exact ⟨_, _, rfl, HO.out, HF.out, HB.out, HK.out⟩
     · obtain rfl : i = n := by omega
       have HINS := hide (E.nmR_ins HP.out i HL.out (fun y hy => by rw [HN.out, List.drop_length] at hy; cases hy))
       clear HL
       go_wp2_with fail
       go_quiet (fail)
       have hO_ : Hid (OwnN (wr.drewN nq) B (.slice ao i cap) ss) := HO
       have m_ : (wr.drewN nq).heap[w.heap.size]? = _ := m1
       have HB_ : Hid (Below B w0 (wr.drewN nq)) := hide (_root_.Go.below_drewN HB.out nq)
       have HK_ : Hid (KN w (wr.drewN nq)) := HK
       have hw_ : w.heap.size < (wr.drewN nq).heap.size := hwl
       clear HO m1 HB HK hwl c0 c1 c2 c3 c4
       have HO := hO_
       have m1 := m_
       have HB := HB_
       have HK := HK_
       have hwl := hw_
       clear hO_ m_ HB_ HK_ hw_
       generalize wr.drewN nq = W2 at *
       obtain ⟨c0, c1, c2, c3, c4⟩ := cells_five m1
       go_wp2_with fail
       go_quiet (fail)
       have hO_ : Hid (OwnN (W2.drewN nq) B (.slice ao i cap) ss) := HO
       have m_ : (W2.drewN nq).heap[w.heap.size]? = _ := m1
       have HB_ : Hid (Below B w0 (W2.drewN nq)) := hide (_root_.Go.below_drewN HB.out nq)
       have HK_ : Hid (KN w (W2.drewN nq)) := HK
       have hw_ : w.heap.size < (W2.drewN nq).heap.size := hwl
       clear HO m1 HB HK hwl c0 c1 c2 c3 c4
       have HO := hO_
       have m1 := m_
       have HB := HB_
       have HK := HK_
       have hwl := hw_
       clear hO_ m_ HB_ HK_ hw_
       generalize W2.drewN nq = W3 at *
       obtain ⟨c0, c1, c2, c3, c4⟩ := cells_five m1
       obtain ⟨NS, hNS⟩ : ∃ NS : List (List UInt8), NS = [nm] := ⟨_, rfl⟩
       have HV : Hid (E.vnk (E.pre (.mk 2 a s nm ks) (.mk 2 a s nm ks)) = NS ++ E.vnK ks) := hide (by rw [HV.out, hNS])
       have HNS : Hid (NS.length ≤ 1) := hide (by rw [hNS]; simp)
       have HR0 : Hid (E.NmR ss NS (ss.take i ++ nm :: ss.drop i)) := hide (by rw [hNS]; exact HINS.out)
       have hBl : B ≤ W3.heap.size := by have := HBS.out; omega
       have hOa : (W3.alloc (.cells #[.string ByteArray.empty] 9)).ownsRow B 9 1 (.slice ao i cap) i (ss.map encStr) := by
         have h := OwnN.alloc HO.out (.cells #[.string ByteArray.empty] 9)
         unfold OwnN at h
         rw [← HN.out] at h
         exact h
       clear hNS HINS
       go_wp2_with (at_builtin; (refine wpList_append_own_at _ rfl _ _ 37 rfl B 9 i0 (.string ByteArray.empty) 1 16 Tryz.underlying37 hi0 hz0 hz1 hz2 rfl (by decide) _ _ _ rfl hOa ⟨W3.heap.size, 0, none⟩ 1 1 [.string ByteArray.empty] rfl rfl (one_newS _ _ _) (by simp [Value.oneCell']) (by unfold maxLen; omega) (by omega) (by simp; omega) ?_; intro v1 w1 hown' hgrow _ hat; obtain ⟨hxl, ⟨hv, hn0⟩ | ⟨g, cap1, cur, rfl, hBg, hg, hle, hmx, hsz, htk⟩⟩ := hown'; (exact absurd hn0 (by omega))))
       rw [Nat.mul_one] at hsz htk
       obtain ⟨vc, w2, cur2, z2, hcp, hg2, hsz2, htk2, hch2⟩ := ins_mem 3 (w := w1.drew) HN.out hg htk hsz hle hin
       have hii : IntKind.i64.wrap ((i : Int) + 1) = (i : Int) + 1 := by simp [IntKind.wrap, IntKind.bits, IntKind.signed]; omega
       obtain ⟨f1, f2, f3⟩ := ins_frame (i := i) (encStr nm) HO.out hBl hgrow hg hBg hch2
       have m2 := f1 _ _ m1 rfl
       have k1 : ∀ w', (Instr.sliceAt 37 (.slice (some ⟨g, 0, none⟩) (i + 1) cap1) (some (.int .i64 ((i : Int) + 1))) none none).run Tryz.prog w' = _ := fun w' => cut_fromN g (i + 1) cap1 (i + 1) (by omega) w'
       have k2 := fun w' => cut_fromN g (i + 1) cap1 i (by omega) w'
       obtain ⟨P1, hP1⟩ : ∃ P1, cutP g cap1 (i + 1) = P1 := ⟨_, rfl⟩
       obtain ⟨P2, hP2⟩ : ∃ P2, cutP g cap1 i = P2 := ⟨_, rfl⟩
       obtain ⟨l1, hl1⟩ : ∃ l1, i + 1 - (i + 1) = l1 := ⟨_, rfl⟩
       obtain ⟨l2, hl2⟩ : ∃ l2, cap1 - (i + 1) = l2 := ⟨_, rfl⟩
       obtain ⟨l3, hl3⟩ : ∃ l3, i + 1 - i = l3 := ⟨_, rfl⟩
       obtain ⟨l4, hl4⟩ : ∃ l4, cap1 - i = l4 := ⟨_, rfl⟩
       rw [hP1, hP2, hl1, hl2, hl3, hl4] at hcp
       rw [hP1, hl1, hl2] at k1
       rw [hP2, hl3, hl4] at k2
       clear hP1 hP2 hl1 hl2 hl3 hl4
       refine Reg.start (B := B) (by kernel_rfl) ?_
       refine Reg.take (fun _ _ _ _ _ h => h) 0 _ 41 (.slice (some ⟨g, 0, none⟩) (i + 1) cap1) rfl (by kernel_rfl) (by kernel_rfl) (by kernel_rfl) rfl (by kernel_rfl) (by kernel_rfl) (fun _ _ => Reg.mv7 rfl rfl) ?_
       refine Reg.take (fun _ _ _ _ _ h => h) 1 _ 42 (.int .i64 (i : Int)) rfl (by kernel_rfl) (by kernel_rfl) (by kernel_rfl) rfl (by kernel_rfl) (by kernel_rfl) (fun _ _ => Reg.mv7 rfl rfl) ?_
       refine Reg.take (fun _ _ _ _ _ h => h) 2 _ 43 (.int .i64 ((i : Int) + 1)) rfl (by kernel_rfl) (by kernel_rfl) (by kernel_rfl) rfl (by kernel_rfl) (by kernel_rfl) (fun _ _ => Reg.adI rfl rfl rfl hii) ?_
       refine Reg.take (fun _ _ _ _ _ h => h) 3 _ 44 (.slice P1 l1 l2) rfl (by kernel_rfl) (by kernel_rfl) (by kernel_rfl) rfl (by kernel_rfl) (by kernel_rfl) (fun w' _ => Reg.sl rfl rfl rfl (k1 w')) ?_
       refine Reg.take (fun _ _ _ _ _ h => h) 4 _ 45 (.slice (some ⟨g, 0, none⟩) (i + 1) cap1) rfl (by kernel_rfl) (by kernel_rfl) (by kernel_rfl) rfl (by kernel_rfl) (by kernel_rfl) (fun _ _ => Reg.mv7 rfl rfl) ?_
       refine Reg.take (fun _ _ _ _ _ h => h) 5 _ 46 (.int .i64 (i : Int)) rfl (by kernel_rfl) (by kernel_rfl) (by kernel_rfl) rfl (by kernel_rfl) (by kernel_rfl) (fun _ _ => Reg.mv7 rfl rfl) ?_
       refine Reg.take (fun _ _ _ _ _ h => h) 6 _ 47 (.slice P2 l3 l4) rfl (by kernel_rfl) (by kernel_rfl) (by kernel_rfl) rfl (by kernel_rfl) (by kernel_rfl) (fun w' _ => Reg.sl rfl rfl rfl (k2 w')) ?_
       refine Reg.only 7 _ 48 rfl (by kernel_rfl) rfl (by kernel_rfl) rfl ⟨vc, w2, B, Reg.cpy rfl rfl rfl hcp, Nat.le_refl _, ⟨hch2.os, hch2.tape, hch2.output, hch2.size, fun k hk => hch2.block k (by have := (Array.getElem?_eq_some_iff.1 hg).1; show k < w1.heap.size; omega) (by omega)⟩, ?_⟩
       refine Reg.done (by kernel_rfl) ?_
       simp only [Reg.ov, Act.put, List.setIfInBounds_toArray, List.set_cons_succ, List.set_cons_zero]
       have hc2 : w2.cell? ⟨g, i, none⟩ = some z2 := U.cell_at hg2 (by have h1 : (cur2.toList.take (i + 1))[i]? = ((ss.take i).map encStr ++ z2 :: (ss.drop i).map encStr)[i]? := (by rw [htk2]); rw [List.getElem?_take, if_pos (by omega), List.getElem?_append_right (by simp; omega)] at h1; simpa [Nat.min_eq_left (show i ≤ ss.length by have := HN.out; omega)] using h1)
       have hf2 : w2.frozen? ⟨g, i, none⟩ = false := U.frozen_at hg2
       have HO4 := hide (ins_store nm HN.out hin hBg hg2 hsz2 hle hmx htk2)
       have m4 := f2 _ _ m1 rfl
       have HB4 := hide (HB.out.trans f3)
       have HK4 := hide (HK.out.trans f2)
       have en := elemSize37
       clear hcp k1 k2 hg2 htk2 hsz2 hg htk hsz hxl c0 c1 c2 c3 c4 f1 f2 f3 hgrow hch2 hOa HO m1 HB HK
       obtain ⟨c0, c1, c2, c3, c4⟩ := cells_five m2
       go_wp2
       clear c0 c1 c2 c3 c4 m2 hc2 hf2
       obtain ⟨c0, c1, c2, c3, c4⟩ := cells_five m4
       go_loopw [1, 6] (fun p u wr => ∃ (sr : List (List UInt8)) (i : Nat), u = .int .i64 (i : Int) ∧ i ≤ ks.length ∧ Hid (E.NmR ss (NS ++ E.vnK (ks.take i)) sr) ∧ Hid (OwnN wr B p sr) ∧ wr.heap[w.heap.size]? = some (.cells #[.int .i64 2, .int .i64 a, .slice sp s.length sc, .string ⟨nm.toArray⟩, .slice kp ks.length kc] 26) ∧ Hid (Below B w0 wr) ∧ w.heap.size < wr.heap.size ∧ Hid (KN w wr)) (fun _ u _ => ks.length - (intOf u).toNat)
       case atStart => exact ⟨_, 0, rfl, Nat.zero_le _, hide (by rw [List.take_zero, show E.vnK [] = [] from rfl, List.append_nil]; exact HR0.out), hide HO4.out, m4, hide HB4.out, (Array.getElem?_eq_some_iff.1 m4).1, hide HK4.out⟩
       case round =>
         obtain ⟨sr, i, rfl, hi, HR, HO, m1, HB, hwl, HK⟩ := hrel
         clear c0 c1 c2 c3 c4 m4 HO4 HB4 HK4
         obtain ⟨c0, c1, c2, c3, c4⟩ := cells_five m1
         by_cases hlt : i < ks.length
         · obtain ⟨b, off, v, hkp, ht1, hc1⟩ := KR.get _ 0 hkr1 i hlt
           obtain ⟨d1, rfl⟩ := ht1.ndD
           subst hkp
           rw [Nat.zero_add] at hc1
           have hl1 := cells5_lt hc1
           have HX : Hid (E.vnK (ks.take (i + 1)) = E.vnK (ks.take i) ++ E.vnk (E.pre ks[i] ks[i])) := hide (by rw [List.take_succ_eq_append_getElem hlt, E.vnK_snoc])
           have hbd : sr.length + sz ks[i] ≤ 1000000 := by
             have h1 := HR.out.2.2
             rw [List.length_append] at h1
             have h2 := E.vnK_le (ks.take i)
             have h3 : sK (ks.take (i + 1)) = sK (ks.take i) + sz ks[i] := by rw [List.take_succ_eq_append_getElem hlt, sK_snoc]
             have h4 := sK_le (ks.take (i + 1)) (ks.drop (i + 1))
             rw [List.take_append_drop] at h4
             have := HNS.out
             have := HSZ.out
             omega
           have hcl := ih ks[i] (List.getElem_mem hlt) B w0 d1 wr _ sr HW.out HB.out ht1 HO.out HR.out.1 hbd
           obtain ⟨y0, y1, y2, y3, y4, ev, g0, g1, g2, g3, g4⟩ := hc1
           unfold ND.v at hcl ev
           simp only [Value.agg.injEq, Array.mk.injEq, List.cons.injEq, and_true] at ev
           obtain ⟨rfl, rfl, rfl, rfl, rfl⟩ := ev
           have hcb : ∀ j, wr.cell? ⟨b, j, none⟩ = w0.cell? ⟨b, j, none⟩ := fun j => World.cell?_of_block (w := w0) (a := ⟨b, j, none⟩) (HB.out.block b (by have := HW.out; omega))
           rw [← hcb] at g0 g1 g2 g3 g4
           clear ht1 hcb hbd
           go_wp2_with fail
           with_reducible refine hcl.mono ?_
           rintro e W4 ⟨u4, s4, rfl, ho4, hr4, hb4, hk4⟩
           have M1 := hide (hk4 _ _ m1 rfl)
           have HR2 : Hid (E.NmR ss (NS ++ E.vnK (ks.take (i + 1))) s4) := hide (by rw [HX.out, ← List.append_assoc]; exact E.nmR_trans HR.out hr4)
           have HO2 := hide ho4
           have HB2 := hide hb4
           have HK2 := hide (HK.out.trans hk4)
           have hwl4 : w.heap.size < W4.heap.size := (Array.getElem?_eq_some_iff.1 M1.out).1
           clear m1 hcl ho4 hr4 hb4 hk4 c0 c1 c2 c3 c4 g0 g1 g2 g3 g4
           go_wp2
           go_roundw
           case rel => exact ⟨_, i + 1, by go_num, by omega, HR2, HO2, M1.out, HB2, hwl4, HK2⟩
           case measure => simp [intOf]; omega
         · obtain rfl : i = ks.length := by omega
           have HF : Hid (E.NmR ss (E.vnk (E.pre (.mk 2 a s nm ks) (.mk 2 a s nm ks))) sr) := hide (by have h := HR.out; rw [List.take_length] at h; rw [HV.out]; exact h)
           go_wp2
           go_ret
           exact ⟨_, _, rfl, HO.out, HF.out, HB.out, HK.out⟩
 · have hkb : (k == 2) = false := by simpa using hk
   obtain ⟨NS, hNS⟩ : ∃ NS : List (List UInt8), NS = [] := ⟨_, rfl⟩
   have HV : Hid (E.vnk (E.pre (.mk k a s nm ks) (.mk k a s nm ks)) = NS ++ E.vnK ks) := hide (by rw [HV0.out]; simp [hk, hNS])
   have HNS : Hid (NS.length ≤ 1) := hide (by rw [hNS]; simp)
   have HR0 : Hid (E.NmR ss (NS) ss) := hide (by rw [hNS]; exact E.nmR_refl _ HP.out)
   clear hNS hk
   go_enter Tryz.func60, Tryz.ntmps60
   go_wp2
   go_loopw [1, 6] (fun p u wr => ∃ (sr : List (List UInt8)) (i : Nat), u = .int .i64 (i : Int) ∧ i ≤ ks.length ∧ Hid (E.NmR ss (NS ++ E.vnK (ks.take i)) sr) ∧ Hid (OwnN wr B p sr) ∧ wr.heap[w.heap.size]? = some (.cells #[.int .i64 k, .int .i64 a, .slice sp s.length sc, .string ⟨nm.toArray⟩, .slice kp ks.length kc] 26) ∧ Hid (Below B w0 wr) ∧ w.heap.size < wr.heap.size ∧ Hid (KN w wr)) (fun _ u _ => ks.length - (intOf u).toNat)
   case atStart => exact ⟨_, 0, rfl, Nat.zero_le _, hide (by rw [List.take_zero, show E.vnK [] = [] from rfl, List.append_nil]; exact HR0.out), hide ho1, n1, hide hb1, (Array.getElem?_eq_some_iff.1 n1).1, hide hkn1⟩
   case round =>
     obtain ⟨sr, i, rfl, hi, HR, HO, m1, HB, hwl, HK⟩ := hrel
     clear c0 c1 c2 c3 c4
     obtain ⟨c0, c1, c2, c3, c4⟩ := cells_five m1
     by_cases hlt : i < ks.length
     · obtain ⟨b, off, v, hkp, ht1, hc1⟩ := KR.get _ 0 hkr1 i hlt
       obtain ⟨d1, rfl⟩ := ht1.ndD
       subst hkp
       rw [Nat.zero_add] at hc1
       have hl1 := cells5_lt hc1
       have HX : Hid (E.vnK (ks.take (i + 1)) = E.vnK (ks.take i) ++ E.vnk (E.pre ks[i] ks[i])) := hide (by rw [List.take_succ_eq_append_getElem hlt, E.vnK_snoc])
       have hbd : sr.length + sz ks[i] ≤ 1000000 := by
         have h1 := HR.out.2.2
         rw [List.length_append] at h1
         have h2 := E.vnK_le (ks.take i)
         have h3 : sK (ks.take (i + 1)) = sK (ks.take i) + sz ks[i] := by rw [List.take_succ_eq_append_getElem hlt, sK_snoc]
         have h4 := sK_le (ks.take (i + 1)) (ks.drop (i + 1))
         rw [List.take_append_drop] at h4
         have := HNS.out
         have := HSZ.out
         omega
       have hcl := ih ks[i] (List.getElem_mem hlt) B w0 d1 wr _ sr HW.out HB.out ht1 HO.out HR.out.1 hbd
       obtain ⟨y0, y1, y2, y3, y4, ev, g0, g1, g2, g3, g4⟩ := hc1
       unfold ND.v at hcl ev
       simp only [Value.agg.injEq, Array.mk.injEq, List.cons.injEq, and_true] at ev
       obtain ⟨rfl, rfl, rfl, rfl, rfl⟩ := ev
       have hcb : ∀ j, wr.cell? ⟨b, j, none⟩ = w0.cell? ⟨b, j, none⟩ := fun j => World.cell?_of_block (w := w0) (a := ⟨b, j, none⟩) (HB.out.block b (by have := HW.out; omega))
       rw [← hcb] at g0 g1 g2 g3 g4
       clear ht1 hcb hbd
       go_wp2_with fail
       with_reducible refine hcl.mono ?_
       rintro e W4 ⟨u4, s4, rfl, ho4, hr4, hb4, hk4⟩
       have M1 := hide (hk4 _ _ m1 rfl)
       have HR2 : Hid (E.NmR ss (NS ++ E.vnK (ks.take (i + 1))) s4) := hide (by rw [HX.out, ← List.append_assoc]; exact E.nmR_trans HR.out hr4)
       have HO2 := hide ho4
       have HB2 := hide hb4
       have HK2 := hide (HK.out.trans hk4)
       have hwl4 : w.heap.size < W4.heap.size := (Array.getElem?_eq_some_iff.1 M1.out).1
       clear m1 hcl ho4 hr4 hb4 hk4 c0 c1 c2 c3 c4 g0 g1 g2 g3 g4
       go_wp2
       go_roundw
       case rel => exact ⟨_, i + 1, by go_num, by omega, HR2, HO2, M1.out, HB2, hwl4, HK2⟩
       case measure => simp [intOf]; omega
     · obtain rfl : i = ks.length := by omega
       have HF : Hid (E.NmR ss (E.vnk (E.pre (.mk k a s nm ks) (.mk k a s nm ks))) sr) := hide (by have h := HR.out; rw [List.take_length] at h; rw [HV.out]; exact h)
       go_wp2
       go_ret
       exact ⟨_, _, rfl, HO.out, HF.out, HB.out, HK.out⟩
theorem names_n : ∀ (n : Nat) (t : T), SizeOf.sizeOf t < n → (∀ p ∈ E.pre t t, p.1.name.length ≤ 100000) → NmP t
 | 0, _, h, _ => absurd h (Nat.not_lt_zero _)
 | n + 1, .mk k a s nm ks, h, hF => names_step k a s nm ks (hF (.mk k a s nm ks, .mk k a s nm ks) (by rw [pre_self]; exact List.mem_cons_self)) (fun t ht => names_n n t (by
     have := List.sizeOf_lt_of_mem ht
     simp at h
     omega) (fun p hp => hF p (by rw [pre_self]; exact List.mem_cons_of_mem _ (List.mem_flatMap.2 ⟨t, ht, hp⟩))))
set_option maxRecDepth 100000 in
set_option maxHeartbeats 1000000 in
theorem namesR_any (t : T) (hz : sz t ≤ 1000000) (hn : ∀ p ∈ E.pre t t, p.1.name.length ≤ 100000) (d : ND) (w : World) (hd : TR w (fun _ => True) t d.v) : Calls Tryz.prog 25 #[d.v] w fun e w' => ∃ u, e = .returned u ∧ OwnN w' w.heap.size u (E.nmL t) ∧ Below w.heap.size w w' := by
 have a1 := al1 w (.cells #[.int .i64 d.k, .int .i64 d.a, .slice d.sp d.sl d.sc, .string d.n, .slice d.kp d.kl d.kc] 26)
 have n1 := heap_alloc_new w (.cells #[.int .i64 d.k, .int .i64 d.a, .slice d.sp d.sl d.sc, .string d.n, .slice d.kp d.kl d.kc] 26)
 obtain ⟨X1, hX1⟩ : ∃ X1, w.alloc (.cells #[.int .i64 d.k, .int .i64 d.a, .slice d.sp d.sl d.sc, .string d.n, .slice d.kp d.kl d.kc] 26) = X1 := ⟨_, rfl⟩
 rw [hX1] at a1 n1
 have h1 := names_n (SizeOf.sizeOf t + 1) t (Nat.lt_succ_self _) hn w.heap.size w d X1 (.slice none 0 0) [] rfl a1 hd (ownN_nil _ _) List.Pairwise.nil (by simpa using hz)
 obtain ⟨c0, c1, c2, c3, c4⟩ := cells_five n1
 have HT := hide (fun ss' h => E.nmR_top t ss' h)
 unfold ND.v at h1 ⊢
 clear hd
 go_enter Tryz.func25, Tryz.ntmps25
 go_wp2_with fail
 with_reducible refine h1.mono ?_
 rintro e W2 ⟨u, ss', rfl, ho, hr, hb, _⟩
 have HE := hide (HT.out ss' hr)
 have HO := hide ho
 clear h1 ho hr HT
 go_wp2
 go_ret
 exact ⟨_, rfl, by rw [← HE.out]; exact HO.out, hb⟩
set_option maxRecDepth 100000 in
set_option maxHeartbeats 1000000 in
theorem texts_any (B B' : Nat) (v v' : Value) (ss : List (List UInt8)) (hl : ss.length ≤ 1000000) (w : World) (ho : OwnN w B v ss) (ho' : OwnN w B' v' ss) : Calls Tryz.prog 23 #[v, v'] w fun e w' => e = .returned (.bool true) ∧ Below w.heap.size w w' := by
 obtain ⟨n, hn⟩ : ∃ n, ss.length = n := ⟨_, rfl⟩
 obtain ⟨ao, cap, rfl, hc1⟩ := ownN_cells ho hn
 obtain ⟨bo, cap', rfl, hc2⟩ := ownN_cells ho' hn
 have HO := hide ho
 have HO' := hide ho'
 have HN : Hid (n = ss.length) := hide hn.symm
 rw [hn] at hl
 clear ho ho' hn
 go_enter Tryz.func23, Tryz.ntmps23
 go_wp2
 go_loopw [5] (fun u wr => ∃ i : Nat, u = .int .i64 (i : Int) ∧ i ≤ n ∧ Hid (OwnN wr B (.slice ao n cap) ss) ∧ Hid (OwnN wr B' (.slice bo n cap') ss) ∧ Below w.heap.size w wr) (fun u _ => n - (intOf u).toNat)
 case atStart => exact ⟨0, rfl, Nat.zero_le _, HO, HO', Below.refl _ _⟩
 case round =>
   obtain ⟨i, rfl, hi, HO, HO', hB⟩ := hrel
   by_cases hlt : i < n
   · have hlf : i < ss.length := by rw [← HN.out]; exact hlt
     obtain ⟨b, rfl, hd0⟩ := hc1 i hlf
     obtain ⟨b', rfl, hd0'⟩ := hc2 i hlf
     have hd := hd0 wr HO.out
     have hd' := hd0' wr HO'.out
     have en := elemSize37
     clear hd0 hd0' hc1 hc2
     generalize ss[i] = x at *
     go_wp2_with fail
     go_quiet (fail)
     have h1 : Hid (OwnN (wr.drewN nq) B (.slice (some ⟨b, 0, none⟩) n cap) ss) := HO
     have h2 : Hid (OwnN (wr.drewN nq) B' (.slice (some ⟨b', 0, none⟩) n cap') ss) := HO'
     have h3 := _root_.Go.below_drewN hB nq
     clear hd hd' HO HO' hB
     generalize wr.drewN nq = W2 at *
     go_wp2
     go_roundw
     case rel => exact ⟨i + 1, by go_num, by omega, h1, h2, h3⟩
     case measure => simp [intOf]; omega
   · obtain rfl : i = n := by omega
     go_wp2
     go_ret
     exact ⟨rfl, hB⟩
end Go.Proofs.YteaaijhppmkfeaaGreatDoor
namespace Go.Proofs.YteaaijhppmkfeaaGreatDoor
open Go.RowKit Go.Shelf
open E (T)
attribute [local go_sem] Oper.semAt_some
theorem told_b {p : Prop} {e : Ending} {b : Bool} (h : U.Told p e) (hb : b = true ↔ p) : e = .returned (.bool b) := by
 obtain ⟨b', rfl, h'⟩ := h
 rw [show b' = b from Bool.eq_iff_iff.2 (h'.trans hb.symm)]
namespace Reg
variable {P : Program} {w : World} {ρ : Operand → Value} {o : Oper} {t t' : TypeId} {x y : Operand}
theorem neB {b : Bool} (ht : P.underlying t = some .bool) (hop : o.op = .binOp .neq t x y t') (hx : ρ x = .bool b) (hy : ρ y = .bool b) : (execOp ρ o).run P w = .ok (.value (.bool false)) w := by
 obtain ⟨dst, op, type, pos, after, guard⟩ := o
 simp only at hop
 subst hop
 simp [execOp, hx, hy, eqGuard, binOp, run_equal_bool w t b b ht, Result.andThen]
theorem eqS7 {s : ByteArray} (hop : o.op = .binOp .eql t x y t') (hx : ρ x = .string s) (hy : ρ y = .string s) : (execOp ρ o).run P w = .ok (.value (.bool true)) w := by
 obtain ⟨dst, op, type, pos, after, guard⟩ := o
 simp only at hop
 subst hop
 simp [execOp, hx, hy, eqGuard, go_sem]
theorem eqN {n : Int} (hop : o.op = .binOp .eql t x y t') (hx : ρ x = .int .i64 n) (hy : ρ y = .int .i64 n) : (execOp ρ o).run P w = .ok (.value (.bool true)) w := by
 obtain ⟨dst, op, type, pos, after, guard⟩ := o
 simp only at hop
 subst hop
 simp [execOp, hx, hy, eqGuard, go_sem]
end Reg
namespace E
mutual
theorem pre_fst : ∀ (a b : T) (p : T × T), p ∈ pre a b → (p.1, p.1) ∈ pre a a
 | .mk k x s n ks, b, p, h => by
   rw [pre, List.mem_cons] at h
   rw [pre, List.mem_cons]
   rcases h with rfl | h
   · exact .inl rfl
   · exact .inr (preK_fst ks b.kids p h)
theorem preK_fst : ∀ (xs ys : List T) (p : T × T), p ∈ preK xs ys → (p.1, p.1) ∈ preK xs xs
 | [], ys, p, h => by rw [preK_nil] at h; cases h
 | x :: xs, [], p, h => by rw [preK_nilr] at h; cases h
 | x :: xs, y :: ys, p, h => by
   rw [preK_cons, List.mem_append] at h
   rw [preK_cons, List.mem_append]
   rcases h with h | h
   · exact .inl (pre_fst x y p h)
   · exact .inr (preK_fst xs ys p h)
end
mutual
theorem pre_len2 : ∀ (a b : T), (pre a b).length ≤ (pre a a).length
 | .mk k x s n ks, b => by
   rw [pre_eq (.mk k x s n ks) b, pre_eq (.mk k x s n ks) (.mk k x s n ks), List.length_cons, List.length_cons]
   exact Nat.add_le_add_right (preK_len2 ks b.kids) 1
theorem preK_len2 : ∀ (xs ys : List T), (preK xs ys).length ≤ (preK xs xs).length
 | [], ys => by rw [preK_nil]; exact Nat.zero_le _
 | x :: xs, [] => by rw [preK_nilr]; exact Nat.zero_le _
 | x :: xs, y :: ys => by
   rw [preK_cons, preK_cons, List.length_append, List.length_append]
   have := pre_len2 x y
   have := preK_len2 xs ys
   omega
end
theorem allL_self (t : T) : AllL (pre t t) := by
 have h : ∀ (n : Nat) (t : T), SizeOf.sizeOf t < n → AllL (pre t t) := by
   intro n
   induction n with
   | zero => intro t h; exact absurd h (Nat.not_lt_zero _)
   | succ n ih =>
     intro t h
     refine (allL_eq t t).2 ⟨⟨rfl, rfl, rfl, rfl⟩, fun i h1 _ => ih _ ?_⟩
     cases t with
     | mk k a s nm ks =>
       have := List.sizeOf_lt_of_mem (List.getElem_mem (l := ks) h1)
       simp only [T.kids] at this ⊢
       simp at h
       omega
 exact h _ t (Nat.lt_succ_self _)
theorem IsP.names {t : T} (h : IsP t) : ∀ p ∈ pre t t, p.1.name.length ≤ 100000 := fun p hp => by
 obtain ⟨_, h1 | h1 | h1⟩ := h.2 p hp
 · rw [h1.2.1]; simp
 · have := (nameP_all h1.2.2).2.2; omega
 · rw [h1.2.2.2]; simp
end E
set_option maxRecDepth 100000 in
set_option maxHeartbeats 4000000 in
theorem trees_any (a b : T) (hFa : InT a) (hFb : InT b) (da db : ND) (w : World) (htab : Tabs w) (hdeb : Deb w) (hda : TR w (fun _ => True) a da.v) (hdb : TR w (fun _ => True) b db.v) : Calls Tryz.prog 4 #[da.v, db.v] w fun e w' => e = .returned (.bool true) ∧ Below w.heap.size w w' := by
 have a1 := al1 w (.cells #[.int .i64 da.k, .int .i64 da.a, .slice da.sp da.sl da.sc, .string da.n, .slice da.kp da.kl da.kc] 26)
 have n1 := heap_alloc_new w (.cells #[.int .i64 da.k, .int .i64 da.a, .slice da.sp da.sl da.sc, .string da.n, .slice da.kp da.kl da.kc] 26)
 obtain ⟨X1, hX1⟩ : ∃ X1, w.alloc (.cells #[.int .i64 da.k, .int .i64 da.a, .slice da.sp da.sl da.sc, .string da.n, .slice da.kp da.kl da.kc] 26) = X1 := ⟨_, rfl⟩
 rw [hX1] at a1 n1
 have x2 := al1 X1 (.cells #[.int .i64 db.k, .int .i64 db.a, .slice db.sp db.sl db.sc, .string db.n, .slice db.kp db.kl db.kc] 26)
 have n2 := heap_alloc_new X1 (.cells #[.int .i64 db.k, .int .i64 db.a, .slice db.sp db.sl db.sc, .string db.n, .slice db.kp db.kl db.kc] 26)
 have n1' := (x2.block w.heap.size (Array.getElem?_eq_some_iff.1 n1).1).trans n1
 obtain ⟨X2, hX2⟩ : ∃ X2, X1.alloc (.cells #[.int .i64 db.k, .int .i64 db.a, .slice db.sp db.sl db.sc, .string db.n, .slice db.kp db.kl db.kc] 26) = X2 := ⟨_, rfl⟩
 rw [hX2] at x2 n2 n1'
 have bW := nx a1 x2
 have hkn := known_any X2 (htab.later bW) (hdeb.later bW)
 unfold ND.v
 go_enter Tryz.func4, Tryz.ntmps4
 go_wp2_with fail
 with_reducible refine hkn.mono ?_
 rintro e W3 ⟨rfl, hb3⟩
 have B3 := nx bW hb3
 have m1 := (hb3.block _ (Array.getElem?_eq_some_iff.1 n1').1).trans n1'
 have m2 := (hb3.block _ (Array.getElem?_eq_some_iff.1 n2).1).trans n2
 have hz1 : w.heap.size < W3.heap.size := (Array.getElem?_eq_some_iff.1 m1).1
 have hz2 : X1.heap.size < W3.heap.size := (Array.getElem?_eq_some_iff.1 m2).1
 have hlo : w.heap.size ≤ X1.heap.size := a1.size
 clear a1 n1 x2 n2 n1' hX1 hX2 bW hkn hb3
 have hca := count_any a hFa da W3 500 (by omega) (TR.later (fun k hk => B3.block k hk) _ hda)
 obtain ⟨ra, hra⟩ : ∃ r : Nat, min (sz a) (500 + 1) = r := ⟨_, rfl⟩
 rw [hra, show ((500 : Nat) : Int) = 500 from rfl] at hca
 have HRA := hide hra
 have hrab : ra ≤ 501 := by omega
 unfold ND.v at hca
 obtain ⟨c0, c1, c2, c3, c4⟩ := cells_five m1
 clear hra
 by_cases hra5 : ra ≤ 500
 · have ea : decide ((500 : Int) < (ra : Int)) = false := decide_eq_false (by omega)
   have ea2 : decide (500 < ra) = false := decide_eq_false (by omega)
   have hza : sz a ≤ 500 := by have := HRA.out; omega
   clear hra5 HRA
   go_wp2_with fail
   with_reducible refine hca.mono ?_
   rintro e W4 ⟨rfl, hb4⟩
   have B4 := nx B3 hb4
   have m1' := (hb4.block _ hz1).trans m1
   have m2' := (hb4.block _ hz2).trans m2
   have hz1' := Nat.lt_of_lt_of_le hz1 hb4.size
   have hz2' := Nat.lt_of_lt_of_le hz2 hb4.size
   clear hca c0 c1 c2 c3 c4 m1 m2 hz1 hz2 B3 hb4
   obtain ⟨c0, c1, c2, c3, c4⟩ := cells_five m2'
   have hcb := count_any b hFb db W4 500 (by omega) (TR.later (fun k hk => B4.block k hk) _ hdb)
   obtain ⟨rb, hrb⟩ : ∃ r : Nat, min (sz b) (500 + 1) = r := ⟨_, rfl⟩
   rw [hrb, show ((500 : Nat) : Int) = 500 from rfl] at hcb
   have hrbb : rb ≤ 501 := by omega
   unfold ND.v at hcb
   clear hrb
   by_cases hrb5 : rb ≤ 500
   · have eb : decide ((500 : Int) < (rb : Int)) = false := decide_eq_false (by omega)
     have eb2 : decide (500 < rb) = false := decide_eq_false (by omega)
     clear hrb5
     go_wp2_with fail
     with_reducible refine hcb.mono ?_
     rintro e W5 ⟨rfl, hb5⟩
     have B5 := nx B4 hb5
     have m1 := (hb5.block _ hz1').trans m1'
     have m2 := (hb5.block _ hz2').trans m2'
     have hz1 := Nat.lt_of_lt_of_le hz1' hb5.size
     have hz2 := Nat.lt_of_lt_of_le hz2' hb5.size
     clear hcb c0 c1 c2 c3 c4 m1' m2' hz1' hz2' B4 hb5
     have hps1 : (E.pre a b).length ≤ 1000000 := by have := E.pre_len2 a b; unfold sz at hza; omega
     have hps2 : (E.pre a a).length ≤ 1000000 := by unfold sz at hza; omega
     have hsl1 : ∀ p ∈ E.pre a b, p.1.set.length ≤ 9223372036854775807 := fun p hp => (hFa _ (E.pre_fst a b p hp)).2.2.1
     have hsl2 : ∀ p ∈ E.pre a a, p.1.set.length ≤ 9223372036854775807 := fun p hp => (hFa _ (E.pre_fst a a p hp)).2.2.1
     have hnbA : ∀ p ∈ E.pre a a, E.NodeB p.1 := hFa
     obtain ⟨bA, hbA⟩ : ∃ bA : Bool, bA = true ↔ E.IsP a := by
       by_cases h : E.IsP a
       · exact ⟨true, by simp [h]⟩
       · exact ⟨false, by simp [h]⟩
     obtain ⟨bS, hbS⟩ : ∃ bS : Bool, bS = true ↔ AllL (E.pre a b) := by
       by_cases h : AllL (E.pre a b)
       · exact ⟨true, by simp [h]⟩
       · exact ⟨false, by simp [h]⟩
     have HAA : Hid (AllL (E.pre a a)) := hide (E.allL_self a)
     obtain ⟨p0, p1, p2, p3, p4⟩ := cells_five m1
     obtain ⟨q0, q1, q2, q3, q4⟩ := cells_five m2
     have TA : ∀ W, Below W5.heap.size W5 W → TR W (fun _ => True) a da.v := fun W h => TR.later (fun k hk => (B5.trans (h.mono (Nat.le_of_lt hz1))).block k hk) _ hda
     have TB : ∀ W, Below W5.heap.size W5 W → TR W (fun _ => True) b db.v := fun W h => TR.later (fun k hk => (B5.trans (h.mono (Nat.le_of_lt hz1))).block k hk) _ hdb
     have htW : ∀ W, Below W5.heap.size W5 W → Tabs W := fun W h => htab.later (B5.trans (h.mono (Nat.le_of_lt hz1)))
     have hdW : ∀ W, Below W5.heap.size W5 W → Deb W := fun W h => hdeb.later (B5.trans (h.mono (Nat.le_of_lt hz1)))
     have LA : ∀ W, Below W5.heap.size W5 W → W.cell? ⟨w.heap.size, 0, none⟩ = some (.int .i64 da.k) ∧ W.cell? ⟨w.heap.size, 1, none⟩ = some (.int .i64 da.a) ∧ W.cell? ⟨w.heap.size, 2, none⟩ = some (.slice da.sp da.sl da.sc) ∧ W.cell? ⟨w.heap.size, 3, none⟩ = some (.string da.n) ∧ W.cell? ⟨w.heap.size, 4, none⟩ = some (.slice da.kp da.kl da.kc) := fun W h => cells_five ((h.block _ hz1).trans m1)
     have LB : ∀ W, Below W5.heap.size W5 W → W.cell? ⟨X1.heap.size, 0, none⟩ = some (.int .i64 db.k) ∧ W.cell? ⟨X1.heap.size, 1, none⟩ = some (.int .i64 db.a) ∧ W.cell? ⟨X1.heap.size, 2, none⟩ = some (.slice db.sp db.sl db.sc) ∧ W.cell? ⟨X1.heap.size, 3, none⟩ = some (.string db.n) ∧ W.cell? ⟨X1.heap.size, 4, none⟩ = some (.slice db.kp db.kl db.kc) := fun W h => cells_five ((h.block _ hz2).trans m2)
     clear q0 q1 q2 q3 q4 p0 p1 p2 p3 p4
     go_wp2_with fail
     refine Reg.start (B := W5.heap.size) (by kernel_rfl) ?_
     refine Reg.take (fun _ _ _ _ _ h => h) 0 _ 15 (.agg #[.int .i64 da.k, .int .i64 da.a, .slice da.sp da.sl da.sc, .string da.n, .slice da.kp da.kl da.kc]) rfl (by kernel_rfl) (by kernel_rfl) (by kernel_rfl) rfl (by kernel_rfl) (by kernel_rfl) (fun wx hb => by
       obtain ⟨z0, z1, z2, z3, z4⟩ := LA wx ((Below.refl W5.heap.size W5).drew.trans hb)
       exact ldK rfl (by kernel_rfl) z0 z1 z2 z3 z4) ?_
     refine Reg.take (fun _ _ _ _ _ h => h) 2 _ 17 (.agg #[.int .i64 da.k, .int .i64 da.a, .slice da.sp da.sl da.sc, .string da.n, .slice da.kp da.kl da.kc]) rfl (by kernel_rfl) (by kernel_rfl) (by kernel_rfl) rfl (by kernel_rfl) (by kernel_rfl) (fun wx hb => by
       obtain ⟨z0, z1, z2, z3, z4⟩ := LA wx ((Below.refl W5.heap.size W5).drew.trans hb)
       exact ldK rfl (by kernel_rfl) z0 z1 z2 z3 z4) ?_
     refine Reg.call 1 _ 16 17 _ _ #[.agg #[.int .i64 da.k, .int .i64 da.a, .slice da.sp da.sl da.sc, .string da.n, .slice da.kp da.kl da.kc]] rfl (by kernel_rfl) rfl (by kernel_rfl) (by kernel_rfl) rfl (by kernel_rfl) (by kernel_rfl) (by have h := is_any7 a da _ (htW _ ((Below.refl W5.heap.size W5).drew)) (TA _ ((Below.refl W5.heap.size W5).drew)) hps2 hnbA; unfold ND.v at h; exact h) ?_
     rintro e V1 ⟨h1, bb1⟩
     obtain rfl := told_b (h := h1) (hb := hbA)
     have D1 : Below W5.heap.size W5 V1 := (Below.refl W5.heap.size W5).drew.trans (bb1.mono (((Below.refl W5.heap.size W5).drew).size))
     refine ⟨_, W5.heap.size, rfl, Nat.le_refl _, bb1.mono (((Below.refl W5.heap.size W5).drew).size), ?_⟩
     refine Reg.call 3 _ 18 18 _ _ #[.agg #[.int .i64 da.k, .int .i64 da.a, .slice da.sp da.sl da.sc, .string da.n, .slice da.kp da.kl da.kc]] rfl (by kernel_rfl) rfl (by kernel_rfl) (by kernel_rfl) rfl (by kernel_rfl) (by kernel_rfl) (by have h := isR_any a hFa da _ (TA _ (D1)); unfold ND.v at h; exact h) ?_
     rintro e V2 ⟨h2, bb2⟩
     obtain rfl := told_b (h := h2) (hb := hbA)
     have D2 : Below W5.heap.size W5 V2 := D1.trans (bb2.mono ((D1).size))
     refine ⟨_, W5.heap.size, rfl, Nat.le_refl _, bb2.mono ((D1).size), ?_⟩
     refine Reg.take (fun _ _ _ _ _ h => h) 4 _ 19 (.bool false) rfl (by kernel_rfl) (by kernel_rfl) (by kernel_rfl) rfl (by kernel_rfl) (by kernel_rfl) (fun wx hb => Reg.neB (b := bA) Tryz.underlying4 rfl (by kernel_rfl) (by kernel_rfl)) ?_
     refine Reg.take (fun _ _ _ _ _ h => h) 5 _ 20 (.bool false) rfl (by kernel_rfl) (by kernel_rfl) (by kernel_rfl) rfl (by kernel_rfl) (by kernel_rfl) (fun wx hb => by kernel_rfl) ?_
     refine Reg.take (fun _ _ _ _ _ h => h) 6 _ 21 (.agg #[.int .i64 da.k, .int .i64 da.a, .slice da.sp da.sl da.sc, .string da.n, .slice da.kp da.kl da.kc]) rfl (by kernel_rfl) (by kernel_rfl) (by kernel_rfl) rfl (by kernel_rfl) (by kernel_rfl) (fun wx hb => by
       obtain ⟨z0, z1, z2, z3, z4⟩ := LA wx (D2.trans hb)
       exact ldK rfl (by kernel_rfl) z0 z1 z2 z3 z4) ?_
     refine Reg.take (fun _ _ _ _ _ h => h) 7 _ 22 (.agg #[.int .i64 db.k, .int .i64 db.a, .slice db.sp db.sl db.sc, .string db.n, .slice db.kp db.kl db.kc]) rfl (by kernel_rfl) (by kernel_rfl) (by kernel_rfl) rfl (by kernel_rfl) (by kernel_rfl) (fun wx hb => by
       obtain ⟨z0, z1, z2, z3, z4⟩ := LB wx (D2.trans hb)
       exact ldK rfl (by kernel_rfl) z0 z1 z2 z3 z4) ?_
     refine Reg.take (fun _ _ _ _ _ h => h) 9 _ 24 (.agg #[.int .i64 da.k, .int .i64 da.a, .slice da.sp da.sl da.sc, .string da.n, .slice da.kp da.kl da.kc]) rfl (by kernel_rfl) (by kernel_rfl) (by kernel_rfl) rfl (by kernel_rfl) (by kernel_rfl) (fun wx hb => by
       obtain ⟨z0, z1, z2, z3, z4⟩ := LA wx (D2.trans hb)
       exact ldK rfl (by kernel_rfl) z0 z1 z2 z3 z4) ?_
     refine Reg.take (fun _ _ _ _ _ h => h) 10 _ 25 (.agg #[.int .i64 db.k, .int .i64 db.a, .slice db.sp db.sl db.sc, .string db.n, .slice db.kp db.kl db.kc]) rfl (by kernel_rfl) (by kernel_rfl) (by kernel_rfl) rfl (by kernel_rfl) (by kernel_rfl) (fun wx hb => by
       obtain ⟨z0, z1, z2, z3, z4⟩ := LB wx (D2.trans hb)
       exact ldK rfl (by kernel_rfl) z0 z1 z2 z3 z4) ?_
     refine Reg.call 8 _ 23 27 _ _ #[.agg #[.int .i64 da.k, .int .i64 da.a, .slice da.sp da.sl da.sc, .string da.n, .slice da.kp da.kl da.kc], .agg #[.int .i64 db.k, .int .i64 db.a, .slice db.sp db.sl db.sc, .string db.n, .slice db.kp db.kl db.kc]] rfl (by kernel_rfl) rfl (by kernel_rfl) (by kernel_rfl) rfl (by kernel_rfl) (by kernel_rfl) (by have h := same_any7 a b da db _ (TA _ (D2)) (TB _ (D2)) hps1 hsl1; unfold ND.v at h; exact h) ?_
     rintro e V3 ⟨h3, bb3⟩
     obtain rfl := told_b (h := h3) (hb := hbS)
     have D3 : Below W5.heap.size W5 V3 := D2.trans (bb3.mono ((D2).size))
     refine ⟨_, W5.heap.size, rfl, Nat.le_refl _, bb3.mono ((D2).size), ?_⟩
     refine Reg.call 11 _ 26 28 _ _ #[.agg #[.int .i64 da.k, .int .i64 da.a, .slice da.sp da.sl da.sc, .string da.n, .slice da.kp da.kl da.kc], .agg #[.int .i64 db.k, .int .i64 db.a, .slice db.sp db.sl db.sc, .string db.n, .slice db.kp db.kl db.kc]] rfl (by kernel_rfl) rfl (by kernel_rfl) (by kernel_rfl) rfl (by kernel_rfl) (by kernel_rfl) (by have h := sameR_any a b hFa da db _ (TA _ (D3)) (TB _ (D3)); unfold ND.v at h; exact h) ?_
     rintro e V4 ⟨h4, bb4⟩
     obtain rfl := told_b (h := h4) (hb := hbS)
     have D4 : Below W5.heap.size W5 V4 := D3.trans (bb4.mono ((D3).size))
     refine ⟨_, W5.heap.size, rfl, Nat.le_refl _, bb4.mono ((D3).size), ?_⟩
     refine Reg.take (fun _ _ _ _ _ h => h) 12 _ 27 (.bool false) rfl (by kernel_rfl) (by kernel_rfl) (by kernel_rfl) rfl (by kernel_rfl) (by kernel_rfl) (fun wx hb => Reg.neB (b := bS) Tryz.underlying4 rfl (by kernel_rfl) (by kernel_rfl)) ?_
     refine Reg.take (fun _ _ _ _ _ h => h) 13 _ 28 (.bool false) rfl (by kernel_rfl) (by kernel_rfl) (by kernel_rfl) rfl (by kernel_rfl) (by kernel_rfl) (fun wx hb => by kernel_rfl) ?_
     refine Reg.take (fun _ _ _ _ _ h => h) 14 _ 29 (.bool false) rfl (by kernel_rfl) (by kernel_rfl) (by kernel_rfl) rfl (by kernel_rfl) (by kernel_rfl) (fun wx hb => by kernel_rfl) ?_
     refine Reg.take (fun _ _ _ _ _ h => h) 15 _ 30 (.agg #[.int .i64 da.k, .int .i64 da.a, .slice da.sp da.sl da.sc, .string da.n, .slice da.kp da.kl da.kc]) rfl (by kernel_rfl) (by kernel_rfl) (by kernel_rfl) rfl (by kernel_rfl) (by kernel_rfl) (fun wx hb => by
       obtain ⟨z0, z1, z2, z3, z4⟩ := LA wx (D4.trans hb)
       exact ldK rfl (by kernel_rfl) z0 z1 z2 z3 z4) ?_
     refine Reg.take (fun _ _ _ _ _ h => h) 16 _ 31 (.agg #[.int .i64 da.k, .int .i64 da.a, .slice da.sp da.sl da.sc, .string da.n, .slice da.kp da.kl da.kc]) rfl (by kernel_rfl) (by kernel_rfl) (by kernel_rfl) rfl (by kernel_rfl) (by kernel_rfl) (fun wx hb => by
       obtain ⟨z0, z1, z2, z3, z4⟩ := LA wx (D4.trans hb)
       exact ldK rfl (by kernel_rfl) z0 z1 z2 z3 z4) ?_
     refine Reg.call 17 _ 32 27 _ _ #[.agg #[.int .i64 da.k, .int .i64 da.a, .slice da.sp da.sl da.sc, .string da.n, .slice da.kp da.kl da.kc], .agg #[.int .i64 da.k, .int .i64 da.a, .slice da.sp da.sl da.sc, .string da.n, .slice da.kp da.kl da.kc]] rfl (by kernel_rfl) rfl (by kernel_rfl) (by kernel_rfl) rfl (by kernel_rfl) (by kernel_rfl) (by have h := same_any7 a a da da _ (TA _ (D4)) (TA _ (D4)) hps2 hsl2; unfold ND.v at h; exact h) ?_
     rintro e V5 ⟨h5, bb5⟩
     obtain rfl := told_b (h := h5) (hb := (show true = true ↔ _ from ⟨fun _ => HAA.out, fun _ => rfl⟩))
     have D5 : Below W5.heap.size W5 V5 := D4.trans (bb5.mono ((D4).size))
     refine ⟨_, W5.heap.size, rfl, Nat.le_refl _, bb5.mono ((D4).size), ?_⟩
     refine Reg.take (fun _ _ _ _ _ h => h) 18 _ 33 (.bool false) rfl (by kernel_rfl) (by kernel_rfl) (by kernel_rfl) rfl (by kernel_rfl) (by kernel_rfl) (fun wx hb => by kernel_rfl) ?_
     refine Reg.only 19 _ 34 rfl (by kernel_rfl) rfl (by kernel_rfl) (by kernel_rfl) ⟨.bool false, V5, W5.heap.size, by kernel_rfl, Nat.le_refl _, Below.refl _ _, ?_⟩
     refine Reg.done (by kernel_rfl) ?_
     simp only [Reg.ov, Act.put, List.setIfInBounds_toArray, List.set_cons_succ, List.set_cons_zero]
     have M1 := (D5.block _ hz1).trans m1
     have B6 := B5.trans (D5.mono (Nat.le_of_lt hz1))
     have hz6 := D5.size
     have his := isR_any a hFa da V5 (TA _ D5)
     have DD : Below W5.heap.size W5 V5 := D5
     unfold ND.v at his
     clear D1 bb1 h1 D2 bb2 h2 D3 bb3 h3 D4 bb4 h4 D5 bb5 h5
     generalize V5 = V at *
     obtain ⟨c0, c1, c2, c3, c4⟩ := cells_five M1
     go_wp2_with fail
     with_reducible refine his.mono ?_
     rintro e W7 ⟨h7, hb7⟩
     obtain rfl := told_b h7 hbA
     have B7 := nx B6 hb7
     have M7 := (hb7.block _ (Array.getElem?_eq_some_iff.1 M1).1).trans M1
     have E7 : Below W5.heap.size W5 W7 := DD.trans (hb7.mono hz6)
     have HBA := hide hbA
     have HBS := hide hbS
     clear his h7 hb7 c0 c1 c2 c3 c4 hbA hbS
     obtain ⟨c0, c1, c2, c3, c4⟩ := cells_five M7
     cases bA with
     | false =>
       have hno : ¬ E.IsP a := fun h => by have := HBA.out.2 h; cases this
       have hpr := print_any7 a da W7 (htW _ E7) (hdW _ E7) (TA _ E7) hps2 hnbA (fun h => absurd h hno)
       rw [show E.prn a = [] from by unfold E.prn; rw [if_neg hno]] at hpr
       unfold ND.v at hpr
       clear hno HBA HBS
       go_wp2_with fail
       with_reducible refine hpr.mono ?_
       rintro e W8 ⟨rfl, hb8⟩
       have B8 := nx B7 hb8
       clear hpr
       go_wp2
       go_ret
       exact ⟨rfl, B8⟩
     | true =>
       have hI : E.IsP a := HBA.out.1 (by first | rfl | trivial)
       have hlen : E.IsP a → (E.text a).length ≤ 8000000 := fun h => by
         have h1 := E.text_len a h.2
         have h2 := h.1
         omega
       have hnm := hI.names
       have hza6 : sz a ≤ 1000000 := by omega
       have hz8 : W5.heap.size ≤ W7.heap.size := E7.size
       clear HBA HBS
       go_wp2_with fail
       have E8 : Below W5.heap.size W5 W7.drew := E7.drew
       refine Reg.start (B := W5.heap.size) (by kernel_rfl) ?_
       refine Reg.take (fun _ _ _ _ _ h => h) 0 _ 41 (.agg #[.int .i64 da.k, .int .i64 da.a, .slice da.sp da.sl da.sc, .string da.n, .slice da.kp da.kl da.kc]) rfl (by kernel_rfl) (by kernel_rfl) (by kernel_rfl) rfl (by kernel_rfl) (by kernel_rfl) (fun wx hb => by
         obtain ⟨z0, z1, z2, z3, z4⟩ := LA wx (E8.trans hb)
         exact ldK rfl (by kernel_rfl) z0 z1 z2 z3 z4) ?_
       refine Reg.take (fun _ _ _ _ _ h => h) 2 _ 43 (.agg #[.int .i64 da.k, .int .i64 da.a, .slice da.sp da.sl da.sc, .string da.n, .slice da.kp da.kl da.kc]) rfl (by kernel_rfl) (by kernel_rfl) (by kernel_rfl) rfl (by kernel_rfl) (by kernel_rfl) (fun wx hb => by
         obtain ⟨z0, z1, z2, z3, z4⟩ := LA wx (E8.trans hb)
         exact ldK rfl (by kernel_rfl) z0 z1 z2 z3 z4) ?_
       refine Reg.call 1 _ 42 19 _ _ #[.agg #[.int .i64 da.k, .int .i64 da.a, .slice da.sp da.sl da.sc, .string da.n, .slice da.kp da.kl da.kc]] rfl (by kernel_rfl) rfl (by kernel_rfl) (by kernel_rfl) rfl (by kernel_rfl) (by kernel_rfl) (by have h := print_any7 a da _ (htW _ (E8)) (hdW _ (E8)) (TA _ (E8)) hps2 hnbA hlen; unfold ND.v at h; exact h) ?_
       rintro e V1 ⟨rfl, bb1⟩
       have D1 : Below W5.heap.size W5 V1 := E8.trans (bb1.mono ((E8).size))
       refine ⟨_, W5.heap.size, rfl, Nat.le_refl _, bb1.mono ((E8).size), ?_⟩
       refine Reg.call 3 _ 44 20 _ _ #[.agg #[.int .i64 da.k, .int .i64 da.a, .slice da.sp da.sl da.sc, .string da.n, .slice da.kp da.kl da.kc]] rfl (by kernel_rfl) rfl (by kernel_rfl) (by kernel_rfl) rfl (by kernel_rfl) (by kernel_rfl) (by have h := printR_any a hFa da _ (TA _ (D1)); unfold ND.v at h; exact h) ?_
       rintro e V2 ⟨rfl, bb2⟩
       have D2 : Below W5.heap.size W5 V2 := D1.trans (bb2.mono ((D1).size))
       refine ⟨_, W5.heap.size, rfl, Nat.le_refl _, bb2.mono ((D1).size), ?_⟩
       refine Reg.take (fun _ _ _ _ _ h => h) 4 _ 45 (.bool true) rfl (by kernel_rfl) (by kernel_rfl) (by kernel_rfl) rfl (by kernel_rfl) (by kernel_rfl) (fun wx hb => Reg.eqS7 (s := ⟨(E.prn a).toArray⟩) rfl (by kernel_rfl) (by kernel_rfl)) ?_
       refine Reg.take (fun _ _ _ _ _ h => h) 5 _ 46 (.bool true) rfl (by kernel_rfl) (by kernel_rfl) (by kernel_rfl) rfl (by kernel_rfl) (by kernel_rfl) (fun wx hb => by kernel_rfl) ?_
       refine Reg.take (fun _ _ _ _ _ h => h) 6 _ 47 (.agg #[.int .i64 da.k, .int .i64 da.a, .slice da.sp da.sl da.sc, .string da.n, .slice da.kp da.kl da.kc]) rfl (by kernel_rfl) (by kernel_rfl) (by kernel_rfl) rfl (by kernel_rfl) (by kernel_rfl) (fun wx hb => by
         obtain ⟨z0, z1, z2, z3, z4⟩ := LA wx (D2.trans hb)
         exact ldK rfl (by kernel_rfl) z0 z1 z2 z3 z4) ?_
       refine Reg.take (fun _ _ _ _ _ h => h) 8 _ 49 (.agg #[.int .i64 da.k, .int .i64 da.a, .slice da.sp da.sl da.sc, .string da.n, .slice da.kp da.kl da.kc]) rfl (by kernel_rfl) (by kernel_rfl) (by kernel_rfl) rfl (by kernel_rfl) (by kernel_rfl) (fun wx hb => by
         obtain ⟨z0, z1, z2, z3, z4⟩ := LA wx (D2.trans hb)
         exact ldK rfl (by kernel_rfl) z0 z1 z2 z3 z4) ?_
       refine Reg.call 7 _ 48 21 _ _ #[.agg #[.int .i64 da.k, .int .i64 da.a, .slice da.sp da.sl da.sc, .string da.n, .slice da.kp da.kl da.kc]] rfl (by kernel_rfl) rfl (by kernel_rfl) (by kernel_rfl) rfl (by kernel_rfl) (by kernel_rfl) (by have h := places_any a da _ (TA _ (D2)) hps2; unfold ND.v at h; exact h) ?_
       rintro e V3 ⟨rfl, bb3⟩
       have D3 : Below W5.heap.size W5 V3 := D2.trans (bb3.mono ((D2).size))
       refine ⟨_, W5.heap.size, rfl, Nat.le_refl _, bb3.mono ((D2).size), ?_⟩
       refine Reg.call 9 _ 50 22 _ _ #[.agg #[.int .i64 da.k, .int .i64 da.a, .slice da.sp da.sl da.sc, .string da.n, .slice da.kp da.kl da.kc]] rfl (by kernel_rfl) rfl (by kernel_rfl) (by kernel_rfl) rfl (by kernel_rfl) (by kernel_rfl) (by have h := placesR_any a hza6 da _ (TA _ (D3)); unfold ND.v at h; exact h) ?_
       rintro e V4 ⟨rfl, bb4⟩
       have D4 : Below W5.heap.size W5 V4 := D3.trans (bb4.mono ((D3).size))
       refine ⟨_, W5.heap.size, rfl, Nat.le_refl _, bb4.mono ((D3).size), ?_⟩
       refine Reg.take (fun _ _ _ _ _ h => h) 10 _ 51 (.bool true) rfl (by kernel_rfl) (by kernel_rfl) (by kernel_rfl) rfl (by kernel_rfl) (by kernel_rfl) (fun wx hb => Reg.eqN (n := (E.cnt (E.pre a a) : Int)) rfl (by kernel_rfl) (by rw [← plN_cnt]; kernel_rfl)) ?_
       refine Reg.take (fun _ _ _ _ _ h => h) 11 _ 52 (.bool true) rfl (by kernel_rfl) (by kernel_rfl) (by kernel_rfl) rfl (by kernel_rfl) (by kernel_rfl) (fun wx hb => by kernel_rfl) ?_
       refine Reg.take (fun _ _ _ _ _ h => h) 12 _ 53 (.bool true) rfl (by kernel_rfl) (by kernel_rfl) (by kernel_rfl) rfl (by kernel_rfl) (by kernel_rfl) (fun wx hb => by kernel_rfl) ?_
       refine Reg.take (fun _ _ _ _ _ h => h) 13 _ 54 (.agg #[.int .i64 da.k, .int .i64 da.a, .slice da.sp da.sl da.sc, .string da.n, .slice da.kp da.kl da.kc]) rfl (by kernel_rfl) (by kernel_rfl) (by kernel_rfl) rfl (by kernel_rfl) (by kernel_rfl) (fun wx hb => by
         obtain ⟨z0, z1, z2, z3, z4⟩ := LA wx (D4.trans hb)
         exact ldK rfl (by kernel_rfl) z0 z1 z2 z3 z4) ?_
       refine Reg.take (fun _ _ _ _ _ h => h) 15 _ 56 (.agg #[.int .i64 da.k, .int .i64 da.a, .slice da.sp da.sl da.sc, .string da.n, .slice da.kp da.kl da.kc]) rfl (by kernel_rfl) (by kernel_rfl) (by kernel_rfl) rfl (by kernel_rfl) (by kernel_rfl) (fun wx hb => by
         obtain ⟨z0, z1, z2, z3, z4⟩ := LA wx (D4.trans hb)
         exact ldK rfl (by kernel_rfl) z0 z1 z2 z3 z4) ?_
       refine Reg.call 14 _ 55 24 _ _ #[.agg #[.int .i64 da.k, .int .i64 da.a, .slice da.sp da.sl da.sc, .string da.n, .slice da.kp da.kl da.kc]] rfl (by kernel_rfl) rfl (by kernel_rfl) (by kernel_rfl) rfl (by kernel_rfl) (by kernel_rfl) (by have h := names_any a da _ (TA _ (D4)) hps2 hnm; unfold ND.v at h; exact h) ?_
       rintro e V5 ⟨u1, rfl, ou1, bb5⟩
       have D5 : Below W5.heap.size W5 V5 := D4.trans (bb5.mono (D4).size)
       refine ⟨_, W5.heap.size, rfl, Nat.le_refl _, bb5.mono (D4).size, ?_⟩
       refine Reg.call 16 _ 57 25 _ _ #[.agg #[.int .i64 da.k, .int .i64 da.a, .slice da.sp da.sl da.sc, .string da.n, .slice da.kp da.kl da.kc]] rfl (by kernel_rfl) rfl (by kernel_rfl) (by kernel_rfl) rfl (by kernel_rfl) (by kernel_rfl) (by have h := namesR_any a hza6 hnm da _ (TA _ (D5)); unfold ND.v at h; exact h) ?_
       rintro e V6 ⟨u2, rfl, ou2, bb6⟩
       have D6 : Below W5.heap.size W5 V6 := D5.trans (bb6.mono (D5).size)
       refine ⟨_, W5.heap.size, rfl, Nat.le_refl _, bb6.mono (D5).size, ?_⟩
       have ou1' := ou1.same (w' := V6) (fun g o hg _ => (bb6.block g (Array.getElem?_eq_some_iff.1 hg).1).trans hg)
       have hnl : (E.nmL a).length ≤ 1000000 := by
         have h1 := Lib.compact_length_le ((E.vnk (E.pre a a)).mergeSort fun x y => decide (x ≤ y))
         have h2 := E.vnk_le (E.pre a a)
         rw [List.length_mergeSort] at h1
         unfold E.nmL
         omega
       refine Reg.call 17 _ 58 23 _ _ #[u1, u2] rfl (by kernel_rfl) rfl (by kernel_rfl) (by kernel_rfl) rfl (by kernel_rfl) (by kernel_rfl) (texts_any _ _ u1 u2 (E.nmL a) hnl _ ou1' ou2) ?_
       rintro e V7 ⟨rfl, bb7⟩
       have D7 : Below W5.heap.size W5 V7 := D6.trans (bb7.mono (D6).size)
       refine ⟨_, W5.heap.size, rfl, Nat.le_refl _, bb7.mono (D6).size, ?_⟩
       refine Reg.take (fun _ _ _ _ _ h => h) 18 _ 59 (.bool true) rfl (by kernel_rfl) (by kernel_rfl) (by kernel_rfl) rfl (by kernel_rfl) (by kernel_rfl) (fun wx hb => by kernel_rfl) ?_
       refine Reg.only 19 _ 4 rfl (by kernel_rfl) rfl (by kernel_rfl) (by kernel_rfl) ⟨.bool true, V7, W5.heap.size, by kernel_rfl, Nat.le_refl _, Below.refl _ _, ?_⟩
       refine Reg.done (by kernel_rfl) ?_
       simp only [Reg.ov, Act.put, List.setIfInBounds_toArray, List.set_cons_succ, List.set_cons_zero]
       have B9 := B5.trans (D7.mono (Nat.le_of_lt hz1))
       go_wp2
       go_ret
       exact ⟨rfl, B9⟩
   · have eb : decide ((500 : Int) < (rb : Int)) = true := decide_eq_true (by omega)
     have eb2 : decide (500 < rb) = true := decide_eq_true (by omega)
     clear hrb5
     go_wp2_with fail
     with_reducible refine hcb.mono ?_
     rintro e W5 ⟨rfl, hb5⟩
     have B5 := nx B4 hb5
     clear hcb
     go_wp2
     go_ret
     exact ⟨rfl, B5⟩
 · have ea : decide ((500 : Int) < (ra : Int)) = true := decide_eq_true (by omega)
   have ea2 : decide (500 < ra) = true := decide_eq_true (by omega)
   clear hra5 HRA
   go_wp2_with fail
   with_reducible refine hca.mono ?_
   rintro e W4 ⟨rfl, hb4⟩
   have B4 := nx B3 hb4
   clear hca
   go_wp2
   go_ret
   exact ⟨rfl, B4⟩
end Go.Proofs.YteaaijhppmkfeaaGreatDoor
