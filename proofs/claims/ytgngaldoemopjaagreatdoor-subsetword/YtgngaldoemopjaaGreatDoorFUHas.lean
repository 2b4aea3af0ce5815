/- Joined: Pre Pli Plj UHas. -/
import Derived.Test.YtgngaldoemopjaaGreatDoorFRep
import Derived.RangeFuncNested
import Derived.RangeFuncBound
import Derived.RangeFuncCalls
import Derived.RangeFuncLeaves
import Derived.RangeFuncBox
import Derived.OwnWalkIn
import Derived.TacticsInMore
import Derived.LoopNIn
import Derived.LoopIn
import Derived.Sort.LoopGhostIn
import Derived.Test.YtgngaldoemopjaaGreatDoorFPlb
import Derived.Test.YtgngaldoemopjaaGreatDoorFRstx
import Derived.Test.YtgngaldoemopjaaGreatDoorFSqr
namespace Go.Proofs.YtgngaldoemopjaaGreatDoor
open Go.RowKit Go.Shelf
open E (T)
namespace E
mutual
def pre : T → T → List (T × T)
 | .mk k a s n ks, b => (.mk k a s n ks, b) :: preK ks b.kids
def preK : List T → List T → List (T × T)
 | [], _ => []
 | _ :: _, [] => []
 | x :: xs, y :: ys => pre x y ++ preK xs ys
end
theorem pre_eq (a b : T) : pre a b = (a, b) :: preK a.kids b.kids := by cases a; rw [pre]; rfl
theorem preK_nil (ys : List T) : preK [] ys = [] := by rw [preK]
theorem preK_nilr (xs : List T) : preK xs [] = [] := by cases xs <;> rw [preK]
theorem preK_cons (x y : T) (xs ys : List T) : preK (x :: xs) (y :: ys) = pre x y ++ preK xs ys := by rw [preK]
def remS : List (List T × List T) → List (T × T)
 | [] => []
 | p :: st => preK p.1 p.2 ++ remS st
end E
def KV (w : World) (ts : List T) (v : Value) : Prop := ∃ p c, v = .slice p ts.length c ∧ ts.length ≤ c ∧ KR w (fun _ => True) ts p 0
theorem KR.shift {w : World} {ok : Nat → Prop} {b off : Nat} : ∀ (ts : List T) (i : Nat), KR w ok ts (some ⟨b, off, none⟩) (i + 1) → KR w ok ts (some ⟨b, off + 5, none⟩) i
 | [], i, _ => by rw [KR]; trivial
 | t :: ts, i, h => by
   rw [KR] at h ⊢
   obtain ⟨⟨b', off', v, e, h1, h2, h3⟩, h4⟩ := h
   cases e
   exact ⟨⟨b, off + 5, v, rfl, h1, h2, by rw [show off + 5 + i * 5 = off + (i + 1) * 5 by omega]; exact h3⟩, KR.shift ts (i + 1) h4⟩
theorem elemSize23 (w : World) : (sizeOf (Tryz.prog.elem 23)).run Tryz.prog w = .ok 5 w := by kernel_rfl
theorem elemSize200 (w : World) : (sizeOf (Tryz.prog.elem 200)).run Tryz.prog w = .ok 2 w := by kernel_rfl
set_option maxRecDepth 100000 in
theorem KV.cons {w : World} {t : T} {ts : List T} {v : Value} (h : KV w (t :: ts) v) : ∃ (b off c : Nat) (d : ND) (u : Value), v = .slice (some ⟨b, off, none⟩) (ts.length + 1) c ∧ TR w (fun _ => True) t d.v ∧ Cells5 w b off d.v ∧ KV w ts u ∧
   (∃ p n c', u = .slice p n c') ∧ ∀ wx : World, (Instr.slice 23 (.slice (some ⟨b, off, none⟩) (ts.length + 1) c) (some (.int .i64 1)) none none).run Tryz.prog wx = .ok u wx := by
 obtain ⟨p, c, rfl, hc, hk⟩ := h
 rw [KR] at hk
 obtain ⟨⟨b, off, v, rfl, _, h2, h3⟩, h4⟩ := hk
 obtain ⟨d, rfl, _, _⟩ := h2.nd
 rw [List.length_cons] at hc
 rw [show off + 0 * 5 = off by omega] at h3
 refine ⟨b, off, c, d, .slice (if c = 1 then some ⟨b, off, none⟩ else some ⟨b, off + 5, none⟩) ts.length (c - 1), rfl, h2, h3, ?_, ⟨_, _, _, rfl⟩, fun wx => ?_⟩
 · refine ⟨_, _, rfl, by omega, ?_⟩
   by_cases h1 : c = 1
   · have : ts = [] := List.eq_nil_of_length_eq_zero (by omega)
     subst this
     rw [KR]; trivial
   · rw [if_neg h1]
     exact KR.shift ts 0 h4
 · have := run_slice_l (P := Tryz.prog) (w := wx) 23 (some ⟨b, off, none⟩) (ts.length + 1) c Tryz.underlying23 .i64 1 (by omega) (by omega)
   rw [this, elemSize23]
   simp only [Result.andThen, sliced]
   congr 1
theorem TR.kv {w : World} {t : T} {d : ND} (h : TR w (fun _ => True) t d.v) : KV w t.kids (.slice d.kp d.kl d.kc) := by
 cases t with
 | mk k a s n ks =>
   rw [TR] at h
   obtain ⟨sp, sc, kp, kc, e, _, h2, h3⟩ := h
   unfold ND.v at e
   simp only [Value.agg.injEq, Array.mk.injEq, List.cons.injEq, Value.slice.injEq, and_true] at e
   obtain ⟨_, _, _, _, rfl, e2, rfl⟩ := e
   exact ⟨_, _, by rw [e2]; rfl, h2, h3⟩
def recOf (w : World) (tmps : Array Value) (ps : Array Tmp) (assign body : Code) (fn : FuncId) (st : LoopState) : Loop :=
 { state := st, pending := none, fn, tmps, params := ps, assign, body, defers := w.heap.size }
def enterW (w : World) (tmps : Array Value) (ps : Array Tmp) (assign body : Code) (fn : FuncId) : World :=
 (w.alloc (.deferred (some []))).alloc (.loop (recOf w tmps ps assign body fn .ready))
theorem enterW_rec (w : World) (tmps : Array Value) (ps : Array Tmp) (assign body : Code) (fn : FuncId) : (enterW w tmps ps assign body fn).heap[w.heap.size + 1]? = some (.loop (recOf w tmps ps assign body fn .ready)) := by
 have h := World.alloc_heap_new (w.alloc (.deferred (some []))) (.loop (recOf w tmps ps assign body fn .ready))
 rw [World.size_alloc] at h
 exact h
theorem enterW_def (w : World) (tmps : Array Value) (ps : Array Tmp) (assign body : Code) (fn : FuncId) : (enterW w tmps ps assign body fn).heap[w.heap.size]? = some (.deferred (some [])) :=
 (Below.heap_alloc _ _ _ (by simp)).trans (World.alloc_heap_new w _)
def RanOut (n : Nat) (Q : Exit → Act → World → Prop) (a : Act) (l : Nat) (r : Loop) (W' : World) : Prop :=
 (W'.heap[l]? = some (.loop r) ∧ ∀ r' : Loop, Q .normal a (W'.putObj l (.loop r'))) ∨
   ∃ rd : Loop, rd.state = .done ∧ rd.pending = some .ret ∧ W'.heap[l]? = some (.loop rd) ∧ ∀ r' : Loop, (Code.ret).wpIn Fence.wide n Tryz.prog Q a (W'.putObj l (.loop r'))
theorem enter3 {n : Nat} {g : Operand} {ps : Array Tmp} {assign body : Code} {Q : Exit → Act → World → Prop} {a : Act} {w : World} {gf : Nat} {lb : Array Value}
   (hg : a.eval g = .func (.func gf) #[] lb) (eg : ∀ args w, (callFunc gf args).run Tryz.prog w = .ok (.enter gf args) w)
   (h : ∀ (r : Loop) (We : World), Hid (r.state = .ready ∧ r.pending = none ∧ r.params = ps ∧ r.tmps = a.tmps ∧ r.assign = assign ∧ r.body = body) → Hid (We.heap[w.heap.size + 1]? = some (.loop r)) → Hid (We.heap[w.heap.size]? = some (.deferred (some []))) → We.heap.size = w.heap.size + 2 → Below w.heap.size w We →
     CallsIn Fence.wide (n - 1) Tryz.prog gf (#[.func (.yield (w.heap.size + 1)) #[] #[]] ++ lb) We fun e W' =>
       (∃ v, e = .returned v) ∧ RanOut n Q { a with defers := { target := .collected w.heap.size, args := #[] } :: a.defers } (w.heap.size + 1) r W') :
   (Code.rangeFunc g ps assign body).wpIn Fence.wide n Tryz.prog Q a w := by
 refine wpIn_rangeFunc fun fn _ => ?_
 refine ⟨w.heap.size + 1, [{ target := .collected w.heap.size, args := #[] }], enterW w a.tmps ps assign body fn, { target := .fn (.func gf) lb, args := #[.func (.yield (w.heap.size + 1)) #[] #[]] }, enterW w a.tmps ps assign body fn, gf,
   #[.func (.yield (w.heap.size + 1)) #[] #[]] ++ lb, enterW w a.tmps ps assign body fn, run_enterLoop_outer _ _ _ _ _, ?_, fun _ _ => trivial, ?_, fun hd => (by cases hd), ?_⟩
 · simp only [resolve, hg]
   simp [go_sem]
 · simp [invoke, go_sem, eg]
 · refine (h (recOf w a.tmps ps assign body fn .ready) (enterW w a.tmps ps assign body fn) ⟨rfl, rfl, rfl, rfl, rfl, rfl⟩ (enterW_rec _ _ _ _ _ _) (enterW_def _ _ _ _ _ _) (by simp [enterW]) ((al1 w _).trans ((al1 _ _).mono (by simp)))).mono ?_
   rintro e W' ⟨⟨v, rfl⟩, ⟨hl, hQ⟩ | ⟨rd, h1, h2, hl, hQ⟩⟩
   · exact ⟨none, _, run_endLoop (P := Tryz.prog) hl (by simp [recOf]), hQ _⟩
   · have := run_endLoop (P := Tryz.prog) hl (by rw [h1]; simp)
     rw [h2] at this
     exact ⟨some .ret, _, this, hQ _⟩
def Bod (l : Nat) (r rb : Loop) (R : Ending → World → Prop) : Exit → Act → World → Prop
 | .normal, _, W3 => W3.heap[l]? = some (.loop rb) ∧ R (.returned (.bool true)) (W3.putObj l (.loop r))
 | .ret, _, W3 => W3.heap[l]? = some (.loop rb) ∧ ∀ rd : Loop, rd.state = .done → rd.pending = some .ret → R (.returned (.bool false)) (W3.putObj l (.loop rd))
 | _, _, _ => False
theorem yield3 {l m : Nat} {r : Loop} {ps : Array Tmp} {tmps : Array Value} {assign body : Code} (hr : Hid (r.state = .ready ∧ r.pending = none ∧ r.params = ps ∧ r.tmps = tmps ∧ r.assign = assign ∧ r.body = body)) {W : World} (hl : W.heap[l]? = some (.loop r)) {args : Array Value} (hsz : args.size = ps.size) {R : Ending → World → Prop}
   (h : assign.wpIn (Fence.wide.inRound l) m Tryz.prog (Exit.then (fun a' Wa => Wa.heap[l]? = some (.loop r) ∧
     ∀ rb, body.wpIn (Fence.wide.inRound l) m Tryz.prog (Bod l r rb R) a' (Wa.putObj l (.loop rb))) (fun _ _ _ => False))
     { tmps := (ps.zip args).foldl (fun t (p, v) => t.setIfInBounds p v) tmps, defers := [] } W) : YieldAt Fence.wide m Tryz.prog l args W R := by
 obtain ⟨h1, h2, rfl, rfl, rfl, rfl⟩ := hr.out
 refine ⟨r.fn, _, r.assign, r.body, run_yield (P := Tryz.prog) hl hsz, roundIn_of_wpIn trivial (wpIn_mono h ?_)⟩
 intro e a1 w1 he
 cases e with
 | normal =>
   obtain ⟨h3, h4⟩ := he
   refine ⟨_, run_beginRound h3 h1, wpIn_mono (h4 _) ?_⟩
   intro e a3 w3 he3
   cases e with
   | normal =>
     obtain ⟨h5, h6⟩ := he3
     have := run_endRound (P := Tryz.prog) none h5
     have e1 : ({ ({ r with state := .busy } : Loop) with state := if (none : Option Code).isNone then .ready else .done, pending := none } : Loop) = r := by
       cases r
       simp at h1 h2 ⊢
       exact ⟨h1.symm, h2.symm⟩
     rw [e1] at this
     exact ⟨_, _, this, h6⟩
   | ret =>
     obtain ⟨h5, h6⟩ := he3
     exact ⟨_, _, run_endRound (P := Tryz.prog) (some .ret) h5, h6 _ rfl rfl⟩
   | exit id => exact he3.elim
   | goto t => exact he3.elim
   | panic ch => exact he3.elim
   | outgrown => exact he3.elim
 | ret => exact he.elim
 | exit id => exact he.elim
 | goto t => exact he.elim
 | panic ch => exact he.elim
 | outgrown => exact he.elim
theorem yield_anyN {m : Nat} (m' : Nat) {l : Nat} {args : Array Value} {W : World} {R : Ending → World → Prop} (h : YieldAt Fence.wide m Tryz.prog l args W R) : YieldAt Fence.wide m' Tryz.prog l args W R := by
 obtain ⟨f, t, c, b, hy, h1, h2⟩ := h
 exact ⟨f, t, c, b, hy, h1, fun x xs _ => h2 x xs (room_wide _)⟩
end Go.Proofs.YtgngaldoemopjaaGreatDoor
namespace Go.Proofs.YtgngaldoemopjaaGreatDoor
open Go.RowKit Go.Shelf
attribute [local go_sem] Oper.semAt_some
theorem bits_andNot_top (m : Nat) (hm : m < 2 ^ 64) : bits .andNot .u64 (m : Int) 9223372036854775808 = ((m % 2 ^ 63 : Nat) : Int) := by
 have h1 : (BitVec.ofInt 64 (m : Int)).toNat = m := by
   rw [BitVec.ofInt_natCast, BitVec.toNat_ofNat]; exact Nat.mod_eq_of_lt hm
 have h2 : (BitVec.ofInt 64 (9223372036854775808 : Int)).toNat = 9223372036854775808 := by decide
 show IntKind.u64.wrap ((BitVec.ofInt 64 (m : Int) &&& ~~~ BitVec.ofInt 64 (9223372036854775808 : Int)).toNat : Int) = _
 rw [BitVec.toNat_and, BitVec.toNat_not, h1, h2, show (2 ^ 64 - 1 - 9223372036854775808 : Nat) = 2 ^ 63 - 1 from rfl, Nat.and_two_pow_sub_one_eq_mod, IntKind.wrap_u64]
 omega
def plc (m : Nat) : List Nat := PA.bits (m % 2 ^ 63)
theorem mem_plc {m i : Nat} : i ∈ plc m ↔ i < 63 ∧ m.testBit i = true := by
 unfold plc
 rw [PA.mem_bits, Nat.testBit_mod_two_pow]
 simp only [Bool.and_eq_true, decide_eq_true_eq]
 exact ⟨fun h => h.2, fun h => ⟨by omega, h⟩⟩
set_option maxRecDepth 100000 in
set_option maxHeartbeats 1000000 in
theorem places_make (m : Nat) (w : World) : Calls Tryz.prog 43 #[.int .u64 (m : Int)] w fun x w' => x = .returned (.func (.func 78) #[] #[.pointer (some ⟨w.heap.size, 0, none⟩)]) ∧ w' = w.alloc (.cells #[.int .u64 (m : Int)] 85) := by
 go_enter Tryz.func43, Tryz.ntmps43
 go_wp2
 go_ret
 exact ⟨rfl, rfl⟩
set_option maxRecDepth 100000 in
set_option maxHeartbeats 2000000 in
theorem places1_in (n : Nat) (hn : 1 ≤ n) (m : Nat) (hm : m < 2 ^ 64) (l bs : Nat) (J : Nat → World → Prop) (W0 : World) (hbx : W0.heap[bs]? = some (.cells #[.int .u64 (m : Int)] 85))
   (hD : ∀ i W, J i W → Deb W)
   (hY : ∀ i (hi : i < (plc m).length) W, J i W → YieldAt Fence.wide (n - 1) Tryz.prog l #[.int .i64 (((plc m)[i] : Nat) : Int)] W fun e W' => e = .returned (.bool true) ∧ J (i + 1) W')
   (h0 : J 0 W0) :
   CallsIn Fence.wide n Tryz.prog 78 #[.func (.yield l) #[] #[], .pointer (some ⟨bs, 0, none⟩)] W0 fun e W' => (∃ v, e = .returned v) ∧ J (plc m).length W' := by
 have cb : W0.cell? ⟨bs, 0, none⟩ = some (.int .u64 (m : Int)) := by simp [World.cell?, hbx]
 have e0 := bits_andNot_top m hm
 have hq : m % 2 ^ 63 < 2 ^ 64 := by omega
 have HP : Hid (plc m = PA.bits (m % 2 ^ 63)) := rfl
 generalize plc m = L at *
 generalize m % 2 ^ 63 = q at *
 refine callsIn_of_wp Tryz.func78 rfl trivial ?_ rfl
 simp only [Tryz.ntmps78, List.size_toArray, List.length_cons, List.length_nil, Nat.reduceAdd, Nat.reduceSub, Array.replicate_succ, Array.replicate_zero, List.push_toArray, List.append_toArray, List.nil_append, List.cons_append]
 gi_wp2
 gi_loopg [3] (L.length + 1) (fun k v wr => ∃ i y : Nat, v = .int .u64 (y : Int) ∧ y < 2 ^ 64 ∧ Hid (L.drop i = PA.bits y) ∧ i ≤ L.length ∧ J i wr ∧ Hid (k = L.length - i + 1))
 case atStart => exact ⟨0, q, rfl, hq, hide (by rw [List.drop_zero]; exact HP.out), Nat.zero_le _, h0, hide (by omega)⟩
 case round =>
   obtain ⟨i, y, rfl, hy64, HL, hi, hJ, HK⟩ := hrel
   by_cases hy : y = 0
   · subst hy
     have HIL : Hid (i = L.length) := hide (by
       have h := HL.out
       rw [PA.bits_zero, List.drop_eq_nil_iff] at h
       omega)
     clear hY cb hbx h0 hD HL HP e0 hq
     gi_wp2
     go_end0
     exact ⟨⟨_, rfl⟩, by rw [← HIL.out]; exact hJ⟩
   · have hc := PA.bits_cons hy hy64
     have hlt : i < L.length := by
       refine Nat.lt_of_not_le fun h => ?_
       have h2 := HL.out
       rw [List.drop_eq_nil_of_le h, hc] at h2
       cases h2
     have hd := HL.out
     rw [List.drop_eq_getElem_cons hlt, hc, List.cons.injEq] at hd
     have HL2 : Hid (L.drop (i + 1) = PA.bits (y &&& (y - 1))) := hide hd.2
     have htz := tz_any y hy64 hy wr (hD i wr hJ)
     obtain ⟨fn, tmps, assign, body, hyl, hR⟩ := hY i hlt wr hJ
     rw [hd.1] at hyl
     have e1 : IntKind.u64.wrap ((y : Int) - 1) = ((y - 1 : Nat) : Int) := by rw [IntKind.wrap_u64]; omega
     have e2 := bits_and_u64_nat y (y - 1) hy64 (by omega)
     have e3 := PA.rest_lt hy64
     have hy0 : ((y : Int) != 0) = true := by simp [hy]
     generalize Lib.ctz 64 y = z at *
     generalize y &&& (y - 1) = x at *
     clear hY cb hbx h0 hD HL HP e0 hq hd hc
     gi_wp2_with (refine ⟨trivial, ?_⟩; gi_at_call 79; refine (callsIn_wide.2 htz).mono ?_; rintro e w2 ⟨rfl, rfl⟩)
     refine hR.mono ?_
     rintro e W1 ⟨rfl, hJ1⟩
     clear hyl hR
     gi_wp2
     gi_roundg (gk - 1)
     case measure => have := HK.out; omega
     case rel => exact ⟨i + 1, x, by first | rfl | (rw [e1, e2]), e3, HL2, by omega, hJ1, hide (by have := HK.out; omega)⟩
theorem below_putL {n l : Nat} (W : World) (o : Obj) (h : n ≤ l) : Below n W (W.putObj l o) := ⟨rfl, rfl, rfl, by rw [World.putObj_size]; exact Nat.le_refl _, fun k hk => World.putObj_heap_other (by omega)⟩
def NormEnd (K : World → Prop) : Exit → Act → World → Prop
 | .normal, _, W => K W
 | _, _, _ => False
theorem places_range {g : Operand} {ps : Array Tmp} {assign body : Code} {Q : Exit → Act → World → Prop} {a : Act} {w : World} {m bs : Nat} (J : Nat → World → Prop)
   (hg : a.eval g = .func (.func 78) #[] #[.pointer (some ⟨bs, 0, none⟩)]) (hps : ps.size = 1) (hbs : w.heap[bs]? = some (.cells #[.int .u64 (m : Int)] 85)) (hm : m < 2 ^ 64)
   (hst : ∀ i A A', J i A → Below w.heap.size A A' → J i A') (hD : ∀ i A, J i A → Deb A) (h0 : J 0 w)
   (hround : ∀ i (hi : i < (plc m).length) A, J i A → w.heap.size + 2 ≤ A.heap.size → assign.wpIn (Fence.wide.inRound (w.heap.size + 1)) 7 Tryz.prog (Exit.then (fun a' Wa => Wa = A ∧
     ∀ A1, J i A1 → w.heap.size + 2 ≤ A1.heap.size → body.wpIn (Fence.wide.inRound (w.heap.size + 1)) 7 Tryz.prog (NormEnd fun W => J (i + 1) W ∧ (∀ k, w.heap.size ≤ k → k < A1.heap.size → W.heap[k]? = A1.heap[k]?) ∧ A1.heap.size ≤ W.heap.size) a' A1) (fun _ _ _ => False))
       { tmps := (ps.zip #[.int .i64 (((plc m)[i] : Nat) : Int)]).foldl (fun t (p, v) => t.setIfInBounds p v) a.tmps, defers := [] } A)
   (hend : ∀ W, J (plc m).length W → W.heap[w.heap.size]? = some (.deferred (some [])) → w.heap.size + 2 ≤ W.heap.size → Q .normal { a with defers := { target := .collected w.heap.size, args := #[] } :: a.defers } W) :
   (Code.rangeFunc g ps assign body).wpIn Fence.wide 9 Tryz.prog Q a w := by
 refine enter3 hg (enters_of Tryz.func78 (by kernel_rfl) rfl) ?_
 intro r We hr hrec hdef hszE hbE
 refine (places1_in 8 (by omega) m hm (w.heap.size + 1) bs (fun i A => J i A ∧ A.heap[w.heap.size + 1]? = some (.loop r) ∧ A.heap[w.heap.size]? = some (.deferred (some [])) ∧ w.heap.size + 2 ≤ A.heap.size) We ((hbE.block _ (Array.getElem?_eq_some_iff.1 hbs).1).trans hbs) (fun i W h => hD i W h.1) ?round ⟨hst 0 w We h0 hbE, hrec.out, hdef.out, by omega⟩).mono ?_
 case round =>
   rintro i hi A ⟨j1, j2, j3, j4⟩
   refine yield3 hr j2 (by rw [hps]; rfl) ?_
   refine wpIn_mono (hround i hi A j1 j4) ?_
   rintro e a' Wa he
   cases e with
   | normal =>
     obtain ⟨rfl, h2⟩ := he
     refine ⟨j2, fun rb => ?_⟩
     have hz : (Wa.putObj (w.heap.size + 1) (.loop rb)).heap.size = Wa.heap.size := World.putObj_size
     refine wpIn_mono (h2 _ (hst i _ _ j1 (below_putL Wa (.loop rb) (by omega))) (by omega)) ?_
     rintro e a3 W3 he
     cases e with
     | normal => ?_
     | ret => exact he.elim
     | exit id => exact he.elim
     | goto t => exact he.elim
     | panic ch => exact he.elim
     | outgrown => exact he.elim
     obtain ⟨h3, h4, h5⟩ := he
     have k1 : W3.heap[w.heap.size + 1]? = some (.loop rb) := (h4 _ (by omega) (by omega)).trans (World.putObj_heap_same (by omega))
     have k2 : W3.heap[w.heap.size]? = some (.deferred (some [])) := ((h4 _ (Nat.le_refl _) (by omega)).trans (World.putObj_heap_other (by omega))).trans j3
     refine ⟨k1, rfl, hst _ _ _ h3 (below_putL W3 (.loop r) (by omega)), World.putObj_heap_same (by omega), (World.putObj_heap_other (by omega)).trans k2, ?_⟩
     rw [World.putObj_size]
     omega
   | ret => exact he.elim
   | exit id => exact he.elim
   | goto t => exact he.elim
   | panic ch => exact he.elim
   | outgrown => exact he.elim
 rintro e W' ⟨hv, j1, j2, j3, j4⟩
 refine ⟨hv, .inl ⟨j2, fun r' => ?_⟩⟩
 exact hend _ (hst _ _ _ j1 (below_putL W' (.loop r') (by omega))) ((World.putObj_heap_other (by omega)).trans j3) (by rw [World.putObj_size]; exact j4)
end Go.Proofs.YtgngaldoemopjaaGreatDoor
namespace Go.Proofs.YtgngaldoemopjaaGreatDoor
open Go.RowKit Go.Shelf
attribute [local go_sem] Oper.semAt_some
def Is91 (w : World) (k : Nat) : Prop := ∃ cs f, w.heap[k]? = some (.cells cs 104 f)
structure PF (n A : Nat) (w W : World) : Prop where
 os : W.os = w.os
 tape : W.tape = w.tape
 output : W.output = w.output
 size : w.heap.size ≤ W.heap.size
 low : ∀ k, k < n → W.heap[k]? = w.heap[k]?
 keep : ∀ k, k < w.heap.size → k ≠ A → ¬ Is91 w k → W.heap[k]? = w.heap[k]?
theorem PF.refl (n A : Nat) (w : World) : PF n A w w := ⟨rfl, rfl, rfl, Nat.le_refl _, fun _ _ => rfl, fun _ _ _ _ => rfl⟩
theorem PF.trans {n A : Nat} {a b c : World} (h : PF n A a b) (k : PF n A b c) : PF n A a c :=
 ⟨k.os.trans h.os, k.tape.trans h.tape, k.output.trans h.output, Nat.le_trans h.size k.size, fun i hi => (k.low i hi).trans (h.low i hi), fun i hi hA h9 => by
   have e := h.keep i hi hA h9
   refine (k.keep i (Nat.lt_of_lt_of_le hi h.size) hA ?_).trans e
   rintro ⟨cs, f, e'⟩
   exact h9 ⟨cs, f, e ▸ e'⟩⟩
theorem PF.of {n A : Nat} {a b : World} (h : Below a.heap.size a b) (hn : n ≤ a.heap.size) : PF n A a b := ⟨h.os, h.tape, h.output, h.size, fun k hk => h.block k (by omega), fun k hk _ _ => h.block k hk⟩
theorem PF.below {n A : Nat} {a b : World} (h : PF n A a b) : Below n a b := ⟨h.os, h.tape, h.output, h.size, h.low⟩
theorem PF.stay {n N A : Nat} {w a b : World} (h : PF n A w a) (hb : Below N a b) (hw : w.heap.size ≤ N) (hn : n ≤ N) : PF n A w b :=
 ⟨hb.os.trans h.os, hb.tape.trans h.tape, hb.output.trans h.output, Nat.le_trans h.size hb.size, fun k hk => (hb.block k (by omega)).trans (h.low k hk), fun k hk hA h9 => (hb.block k (by omega)).trans (h.keep k hk hA h9)⟩
theorem PF.deb {n A : Nat} {a b : World} (h : PF n A a b) (h0 : 0 < n) (hd : Deb a) : Deb b := fun j hj => (World.cell?_of_block (w := a) (a := ⟨0, j, none⟩) (h.low 0 h0)).trans (hd j hj)
theorem PF.at_ {n A : Nat} {a b : World} (h : PF n A a b) {k : Nat} {cs : Array Value} {t : TypeId} {f : Nat × Nat} (hk : a.heap[k]? = some (.cells cs t f)) (hA : k ≠ A) (h9 : t ≠ 104) : b.heap[k]? = some (.cells cs t f) := by
 refine (h.keep k (Array.getElem?_eq_some_iff.1 hk).1 hA ?_).trans hk
 rintro ⟨cs', f', e⟩
 rw [hk] at e
 cases e
 exact h9 rfl
theorem own_same {W W' : World} {B s n : Nat} {e : TypeId} {v : Value} {xs : List Value} (h : W.ownsRow B e s v n xs) (hs : ∀ k, v.ownBlock = some k → W'.heap[k]? = W.heap[k]?) : W'.ownsRow B e s v n xs := by
 obtain ⟨h1, h2 | ⟨g, cap, cur, rfl, h3, h4, h5⟩⟩ := h
 · exact ⟨h1, .inl h2⟩
 · exact ⟨h1, .inr ⟨g, cap, cur, rfl, h3, (hs g (by simp [Value.ownBlock])).trans h4, h5⟩⟩
theorem own_type {W : World} {B s n : Nat} {e : TypeId} {v : Value} {xs : List Value} (h : W.ownsRow B e s v n xs) {k : Nat} (hk : v.ownBlock = some k) : B ≤ k ∧ k < W.heap.size ∧ ∃ cur, W.heap[k]? = some (.cells cur e (0, 0)) := by
 obtain ⟨_, ⟨rfl, _⟩ | ⟨g, cap, cur, rfl, h3, h4, _⟩⟩ := h
 · simp [Value.ownBlock] at hk
 · have e : g = k := by simpa [Value.ownBlock] using hk
   subst e
   exact ⟨h3, (Array.getElem?_eq_some_iff.1 h4).1, cur, h4⟩
section
variable {w W : World} {B A : Nat} {v : Value} {qs : List (PA.Pl × Value)} {x : PA.En}
theorem AutoW.keep (h : AutoW w B A v qs x) (hs : ∀ k, (k = A ∨ v.ownBlock = some k ∨ ∃ q ∈ qs, q.2.ownBlock = some k) → W.heap[k]? = w.heap[k]?) : AutoW W B A v qs x :=
 ⟨(hs A (.inl rfl)).trans h.box, own_same h.own fun k hk => hs k (.inr (.inl hk)), fun q hq => own_same (h.set q hq) fun k hk => hs k (.inr (.inr ⟨q, hq, hk⟩)), h.le⟩
theorem AutoW.lt (h : AutoW w B A v qs x) : ∀ k, (k = A ∨ v.ownBlock = some k ∨ ∃ q ∈ qs, q.2.ownBlock = some k) → k < w.heap.size := by
 rintro k (rfl | hk | ⟨q, hq, hk⟩)
 · exact (Array.getElem?_eq_some_iff.1 h.box).1
 · exact (own_type h.own hk).2.1
 · exact (own_type (h.set q hq) hk).2.1
theorem AutoW.later (h : AutoW w B A v qs x) (hb : Below w.heap.size w W) : AutoW W B A v qs x := h.keep fun k hk => hb.block k (h.lt k hk)
end
def qsS (S : Nat → Bool) (t : Nat) (qs : List (PA.Pl × Value)) : List (PA.Pl × Value) := qs.mapIdx fun i q => if S i then ((q.1.1, q.1.2 ||| t), q.2) else q
theorem qsS_length (S : Nat → Bool) (t : Nat) (qs : List (PA.Pl × Value)) : (qsS S t qs).length = qs.length := by simp [qsS]
theorem qsS_get (S : Nat → Bool) (t : Nat) (qs : List (PA.Pl × Value)) (i : Nat) (h : i < qs.length) : (qsS S t qs)[i]'(by rw [qsS_length]; exact h) = if S i then ((qs[i].1.1, qs[i].1.2 ||| t), qs[i].2) else qs[i] := by simp [qsS]
theorem qsS_none (t : Nat) (qs : List (PA.Pl × Value)) : qsS (fun _ => false) t qs = qs := by
 refine List.ext_getElem (qsS_length _ _ _) fun i h1 h2 => ?_
 rw [qsS_get _ _ _ _ h2]; simp
theorem qsS_congr {S S' : Nat → Bool} {t : Nat} {qs : List (PA.Pl × Value)} (h : ∀ i, i < qs.length → S i = S' i) : qsS S t qs = qsS S' t qs := by
 refine List.ext_getElem (by rw [qsS_length, qsS_length]) fun i h1 h2 => ?_
 rw [qsS_length] at h1
 rw [qsS_get _ _ _ _ h1, qsS_get _ _ _ _ h1, h i h1]
theorem qsS_snd {S : Nat → Bool} {t : Nat} {qs : List (PA.Pl × Value)} {q : PA.Pl × Value} (h : q ∈ qsS S t qs) : ∃ p ∈ qs, q.2 = p.2 ∧ q.1.1 = p.1.1 := by
 obtain ⟨i, hi, rfl⟩ := List.mem_iff_getElem.1 h
 rw [qsS_length] at hi
 rw [qsS_get _ _ _ _ hi]
 refine ⟨qs[i], List.getElem_mem hi, ?_⟩
 split <;> exact ⟨rfl, rfl⟩
theorem qsS_join (S : Nat) (t : Nat) (qs : List (PA.Pl × Value)) : (qsS S.testBit t qs).map (·.1) = PA.join S t (qs.map (·.1)) := by
 refine List.ext_getElem (by simp [PA.join, qsS]) fun i h1 h2 => ?_
 simp only [List.length_map] at h1
 rw [qsS_length] at h1
 rw [List.getElem_map, qsS_get _ _ _ _ h1, PA.join_get _ _ _ i (by simpa using h1), List.getElem_map]
 split <;> rfl
theorem qsS_step {S : Nat → Bool} {t k : Nat} {qs : List (PA.Pl × Value)} (hk : k < qs.length) :
   (qsS S t qs).set k (((qs[k].1.1, (if S k then qs[k].1.2 ||| t else qs[k].1.2) ||| t), qs[k].2)) = qsS (fun j => S j || decide (j = k)) t qs := by
 refine List.ext_getElem (by simp [qsS_length]) fun i h1 h2 => ?_
 rw [qsS_length] at h2
 rw [qsS_get _ _ _ _ h2, List.getElem_set]
 by_cases e : k = i
 · subst e
   simp only [if_true, decide_true, Bool.or_true]
   by_cases hS : S k = true
   · rw [if_pos hS, Nat.or_assoc, Nat.or_self]
   · rw [if_neg hS]
 · rw [if_neg e, qsS_get _ _ _ _ h2]
   have : decide (i = k) = false := decide_eq_false fun h => e h.symm
   simp only [this, Bool.or_false]
theorem own_set {w : World} {B s g n cap : Nat} {e : TypeId} {xs : List Value} (h : w.ownsRow B e s (.slice (some ⟨g, 0, none⟩) n cap) n xs) (j : Nat) (u : Value) : (w.setCell ⟨g, j, none⟩ u).ownsRow B e s (.slice (some ⟨g, 0, none⟩) n cap) n (xs.set j u) := by
 obtain ⟨h1, h2 | ⟨g', cap', cur, e', h3, hg, h4, h5, h6, h7⟩⟩ := h
 · cases h2.1
 · cases e'
   refine ⟨by rw [List.length_set]; exact h1, .inr ⟨g, cap, cur.setIfInBounds j u, rfl, h3, U.set_at u hg, h4, h5, by rw [Array.size_setIfInBounds]; exact h6, ?_⟩⟩
   rw [Array.toList_setIfInBounds, ← h7, List.take_set]
theorem cP_set : ∀ (qs : List (PA.Pl × Value)) (k : Nat) (f : Nat) (h : k < qs.length), (cP qs).set (k * 2 + 1) (.int .u64 (f : Int)) = cP (qs.set k ((qs[k].1.1, f), qs[k].2))
 | q :: qs, 0, f, _ => rfl
 | q :: qs, k + 1, f, h => by
   rw [cP, show (k + 1) * 2 + 1 = (k * 2 + 1) + 1 + 1 by omega, List.set_cons_succ, List.set_cons_succ, cP_set qs k f (by simpa using h)]
   rfl
theorem AutoW.put {w : World} {B A g n cap : Nat} {qs : List (PA.Pl × Value)} {x : PA.En} (h : AutoW w B A (.slice (some ⟨g, 0, none⟩) n cap) qs x) (k : Nat) (hk : k < qs.length) (f : Nat) :
   AutoW (w.setCell ⟨g, k * 2 + 1, none⟩ (.int .u64 (f : Int))) B A (.slice (some ⟨g, 0, none⟩) n cap) (qs.set k ((qs[k].1.1, f), qs[k].2)) x := by
 obtain ⟨_, _, cur, hcur⟩ := own_type h.own (show (Value.slice (some ⟨g, 0, none⟩) n cap).ownBlock = some g from rfl)
 have hn : n = qs.length := by
   obtain ⟨ao, c, e⟩ := h.sl
   cases e
   rfl
 subst hn
 have hne : ∀ b, b ≠ g → (w.setCell ⟨g, k * 2 + 1, none⟩ (.int .u64 (f : Int))).heap[b]? = w.heap[b]? := fun b hb => Below.heap_setCell _ _ _ _ hb
 refine ⟨(hne A ?_).trans h.box, ?_, fun q hq => ?_, h.le⟩
 · rintro rfl
   rw [h.box] at hcur
   cases hcur
 · have := own_set h.own (k * 2 + 1) (.int .u64 (f : Int))
   rw [cP_set qs k f hk] at this
   rw [List.length_set]
   exact this
 · have hp : ∃ p ∈ qs, q.2 = p.2 ∧ q.1.1 = p.1.1 := by
     rcases List.mem_or_eq_of_mem_set hq with h' | rfl
     · exact ⟨q, h', rfl, rfl⟩
     · exact ⟨qs[k], List.getElem_mem hk, rfl, rfl⟩
   obtain ⟨p, hp, e1, e2⟩ := hp
   have ho := h.set p hp
   rw [e1, e2]
   exact own_same ho fun b hb => hne b (by
     rintro rfl
     obtain ⟨_, _, cur', hcur'⟩ := own_type ho hb
     rw [hcur] at hcur'
     cases hcur')
theorem Reg.faG {w : World} {ρ : Operand → Value} {o : Oper} {x : Operand} {t b off i : Nat} (hop : o.op = .fieldAddr t x i) (ht : (t = 89 ∧ (i = 0 ∨ i = 1)) ∨ (t = 104 ∧ (i = 0 ∨ i = 1)) ∨ (t = 87 ∧ (i = 0 ∨ i = 1 ∨ i = 2))) (hx : ρ x = .pointer (some ⟨b, off, none⟩)) : (execOp ρ o).run Tryz.prog w = .ok (.value (.pointer (some ⟨b, off + i, none⟩))) w := by
 obtain ⟨dst, op, type, pos, after, guard⟩ := o
 simp only at hop
 subst hop
 rcases ht with ⟨rfl, rfl | rfl⟩ | ⟨rfl, rfl | rfl⟩ | ⟨rfl, rfl | rfl | rfl⟩ <;> simp [execOp, hx, go_sem]
theorem Reg.orU {w : World} {ρ : Operand → Value} {o : Oper} {t : TypeId} {x y : Operand} {m n : Nat} (hop : o.op = .binOp .or t x y t) (hx : ρ x = .int .u64 (m : Int)) (hy : ρ y = .int .u64 (n : Int)) (hm : m < 2 ^ 64) (hn : n < 2 ^ 64) (ht : t = 85) : (execOp ρ o).run Tryz.prog w = .ok (.value (.int .u64 ((m ||| n : Nat) : Int))) w := by
 have e := bits_or_u64_nat m n hm hn
 obtain ⟨dst, op, type, pos, after, guard⟩ := o
 simp only at hop
 subst hop
 subst ht
 simp [execOp, hx, hy, eqGuard, go_sem, e]
set_option maxRecDepth 100000 in
set_option maxHeartbeats 4000000 in
theorem join_in {w : World} {B A : Nat} {v : Value} {qs : List (PA.Pl × Value)} {x : PA.En} (hA : AutoW w B A v qs x) (f t : Nat) (hf : f < 2 ^ qs.length) (ht : t < 2 ^ 64) (hq : ∀ q ∈ qs, q.1.2 < 2 ^ 64) (hlen : qs.length ≤ 63) (h0 : 0 < B) (hd : Deb w) :
   CallsIn Fence.wide 9 Tryz.prog 64 #[.pointer (some ⟨A, 0, none⟩), .int .u64 (f : Int), .int .u64 (t : Int)] w fun e W' => (∃ u, e = .returned u) ∧ AutoW W' B A v (qsS f.testBit t qs) x ∧ PF B A w W' := by
 have hf64 : f < 2 ^ 64 := PA.up hf (by omega)
 have hB : B ≤ w.heap.size := Nat.le_trans hA.le (Nat.le_of_lt (Array.getElem?_eq_some_iff.1 hA.box).1)
 refine callsIn_of_wp_marks Tryz.func64 rfl trivial ?_ rfl
 simp only [Tryz.ntmps64, List.size_toArray, List.length_cons, List.length_nil, Nat.reduceAdd, Nat.reduceSub, Array.replicate_succ, Array.replicate_zero, List.push_toArray, List.append_toArray, List.nil_append, List.cons_append]
 gi_wp2_with (refine ⟨trivial, ?_⟩; gi_at_call 43; refine (callsIn_wide.2 (places_make f _)).mono ?_; rintro e w2 ⟨rfl, rfl⟩)
 have b1 := al1 w (.cells #[.pointer (some ⟨A, 0, none⟩)] 52)
 have n1 := heap_alloc_new w (.cells #[.pointer (some ⟨A, 0, none⟩)] 52)
 have s1 : (w.alloc (.cells #[.pointer (some ⟨A, 0, none⟩)] 52)).heap.size = w.heap.size + 1 := by simp
 obtain ⟨X1, hX1⟩ : ∃ X1, w.alloc (.cells #[.pointer (some ⟨A, 0, none⟩)] 52) = X1 := ⟨_, rfl⟩
 rw [hX1] at b1 n1 s1 ⊢
 have b2 := al1 X1 (.cells #[.int .u64 (t : Int)] 85)
 have n2 := heap_alloc_new X1 (.cells #[.int .u64 (t : Int)] 85)
 have s2 : (X1.alloc (.cells #[.int .u64 (t : Int)] 85)).heap.size = w.heap.size + 2 := by simp [s1]
 obtain ⟨X2, hX2⟩ : ∃ X2, X1.alloc (.cells #[.int .u64 (t : Int)] 85) = X2 := ⟨_, rfl⟩
 rw [hX2] at b2 n2 s2 ⊢
 rw [s1] at n2
 have b3 := al1 X2 (.cells #[.int .u64 (f : Int)] 85)
 have hX3 := heap_alloc_new X2 (.cells #[.int .u64 (f : Int)] 85)
 have hXs : (X2.alloc (.cells #[.int .u64 (f : Int)] 85)).heap.size = w.heap.size + 3 := by simp [s2]
 obtain ⟨X, hX⟩ : ∃ X, X2.alloc (.cells #[.int .u64 (f : Int)] 85) = X := ⟨_, rfl⟩
 rw [hX] at b3 hX3 hXs ⊢
 rw [s2] at hX3
 have hXb := nx b1 (nx b2 b3)
 have hX1 := (b3.block _ (by omega)).trans ((b2.block _ (by omega)).trans n1)
 have hX2 := (b3.block _ (by omega)).trans n2
 clear hX b1 b2 b3 n1 n2 s1 s2
 have hlt := hA.lt
 have hS : ∀ S k, (k = A ∨ v.ownBlock = some k ∨ ∃ q ∈ qsS S t qs, q.2.ownBlock = some k) → k < w.heap.size := by
   rintro S k (h | h | ⟨q, hq, hk⟩)
   · exact hlt k (.inl h)
   · exact hlt k (.inr (.inl h))
   · obtain ⟨p, hp, e1, _⟩ := qsS_snd hq
     exact hlt k (.inr (.inr ⟨p, hp, e1 ▸ hk⟩))
 refine places_range (m := f) (fun i a => AutoW a B A v (qsS (fun j => decide (j ∈ (plc f).take i)) t qs) x ∧ a.heap[w.heap.size]? = some (.cells #[.pointer (some ⟨A, 0, none⟩)] 52) ∧ a.heap[w.heap.size + 1]? = some (.cells #[.int .u64 (t : Int)] 85) ∧ PF B A w a) rfl rfl hX3 hf64 ?st (fun i a h => h.2.2.2.deb h0 hd) ⟨by rw [show qsS (fun j => decide (j ∈ (plc f).take 0)) t qs = qs from (qsS_congr fun i _ => by simp).trans (qsS_none t qs)]; exact hA.later hXb, hX1, hX2, PF.of hXb hB⟩ ?round ?fin
 case st =>
   rintro i a a' ⟨h1, h2, h3, h4⟩ hb
   exact ⟨h1.keep fun k hk => hb.block k (by have := hS _ k hk; omega), (hb.block _ (by omega)).trans h2, (hb.block _ (by omega)).trans h3, h4.stay hb (by omega) (by omega)⟩
 case round =>
   intro i hi a ha hz
   have hk63 := (mem_plc.1 (List.getElem_mem hi))
   have hk : (plc f)[i] < qs.length := PA.bits_low hf _ (PA.mem_bits.2 ⟨by omega, hk63.2⟩)
   have HS : Hid (∀ j, (decide (j ∈ (plc f).take i) || decide (j = (plc f)[i])) = decide (j ∈ (plc f).take (i + 1))) := hide fun j => by
     rw [List.take_succ_eq_append_getElem hi, Bool.eq_iff_iff]
     simp only [Bool.or_eq_true, decide_eq_true_eq, List.mem_append, List.mem_singleton]
   obtain ⟨k, hkk⟩ : ∃ k, (plc f)[i] = k := ⟨_, rfl⟩
   rw [hkk] at hk HS ⊢
   clear hkk ha hk63
   gi_wp2
   refine ⟨trivial, ?_⟩
   rintro a1 ⟨h1, h2, h3, h4⟩ hz1
   have hk' : k < (qsS (fun j => decide (j ∈ (plc f).take i)) t qs).length := by rw [qsS_length]; exact hk
   obtain ⟨g, cap, hv, _, d1⟩ := h1.row k hk'
   rw [qsS_length] at hv
   subst hv
   have hold : ((qsS (fun j => decide (j ∈ (plc f).take i)) t qs)[k]).1.2 < 2 ^ 64 := by
     rw [qsS_get _ _ _ _ hk]
     split
     · exact PA.or_lt (hq _ (List.getElem_mem hk)) ht
     · exact hq _ (List.getElem_mem hk)
   have hput := fun f' => h1.put k hk' f'
   have hgk := own_type h1.own (show (Value.slice (some ⟨g, 0, none⟩) qs.length cap).ownBlock = some g from rfl)
   have HFin : Hid ((qsS (fun j => decide (j ∈ (plc f).take i)) t qs).set k (((qsS (fun j => decide (j ∈ (plc f).take i)) t qs)[k].1.1, (qsS (fun j => decide (j ∈ (plc f).take i)) t qs)[k].1.2 ||| t), (qsS (fun j => decide (j ∈ (plc f).take i)) t qs)[k].2) = qsS (fun j => decide (j ∈ (plc f).take (i + 1))) t qs) := hide (by
     rw [← qsS_congr (fun j _ => HS.out j), ← qsS_step hk]
     rw [qsS_get _ _ _ _ hk]
     by_cases hm : decide (k ∈ (plc f).take i) = true
     · simp only [if_pos hm]
     · simp only [if_neg hm])
   obtain ⟨old, ho⟩ : ∃ old, (qsS (fun j => decide (j ∈ (plc f).take i)) t qs)[k].1.2 = old := ⟨_, rfl⟩
   rw [ho] at hold d1 HFin
   have c0 := h1.cells.1
   have hT : a1.heap[w.heap.size]? = some (.cells #[.pointer (some ⟨A, 0, none⟩)] 52) ∧ a1.heap[w.heap.size + 1]? = some (.cells #[.int .u64 (t : Int)] 85) ∧ a1.cell? ⟨A, 0, none⟩ = some (.slice (some ⟨g, 0, none⟩) qs.length cap) ∧ a1.cell? ⟨g, k * 2 + 1, none⟩ = some (.int .u64 (old : Int)) := ⟨h2, h3, c0, d1⟩
   clear ho c0 h2 h3
   gi_wp2
   refine U.Rst.startR 12 (fun w' => w'.heap[w.heap.size]? = some (.cells #[.pointer (some ⟨A, 0, none⟩)] 52) ∧ w'.heap[w.heap.size + 1]? = some (.cells #[.int .u64 (t : Int)] 85) ∧ w'.cell? ⟨A, 0, none⟩ = some (.slice (some ⟨g, 0, none⟩) qs.length cap) ∧ w'.cell? ⟨g, k * 2 + 1, none⟩ = some (.int .u64 (old : Int))) (by kernel_rfl) (by kernel_rfl) (by rintro ⟨_, _, h⟩; exact h) ?_
   refine U.Rst.take (fun _ _ _ _ _ h => h) 0 _ 10 (.pointer (some ⟨A, 0, none⟩)) rfl (by kernel_rfl) rfl (by kernel_rfl) (by kernel_rfl) hT (fun w' hw => U.Reg.ld1 rfl rfl (by simp [World.cell?, hw.1]) (Tryz.isAgg52 _)) ?_
   refine U.Rst.take (fun _ _ _ _ _ h => h) 1 _ 11 (.pointer (some ⟨A, 0, none⟩)) rfl (by kernel_rfl) rfl (by kernel_rfl) (by kernel_rfl) hT (fun w' hw => U.Reg.nc rfl rfl) ?_
   refine U.Rst.take (fun _ _ _ _ _ h => h) 2 _ 12 (.pointer (some ⟨A, 0 + 0, none⟩)) rfl (by kernel_rfl) rfl (by kernel_rfl) (by kernel_rfl) hT (fun w' hw => Reg.faG rfl (.inl ⟨rfl, .inl rfl⟩) rfl) ?_
   refine U.Rst.take (fun _ _ _ _ _ h => h) 3 _ 13 (.slice (some ⟨g, 0, none⟩) qs.length cap) rfl (by kernel_rfl) rfl (by kernel_rfl) (by kernel_rfl) hT (fun w' hw => U.Reg.ld1 rfl rfl hw.2.2.1 (Tryz.isAgg84 _)) ?_
   refine U.Rst.take (fun _ _ _ _ _ h => h) 4 _ 14 (.int .i64 (k : Int)) rfl (by kernel_rfl) rfl (by kernel_rfl) (by kernel_rfl) hT (fun w' hw => U.Reg.mv rfl rfl) ?_
   refine U.Rst.take (fun _ _ _ _ _ h => h) 5 _ 15 (.pointer (some ⟨g, 0 + k * 2, none⟩)) rfl (by kernel_rfl) rfl (by kernel_rfl) (by kernel_rfl) hT (fun w' hw => U.Reg.ix rfl rfl rfl hk Tryz.underlying84 (elemSize84 _)) ?_
   refine U.Rst.take (fun _ _ _ _ _ h => h) 6 _ 16 (.pointer (some ⟨g, 0 + k * 2 + 1, none⟩)) rfl (by kernel_rfl) rfl (by kernel_rfl) (by kernel_rfl) hT (fun w' hw => Reg.faG rfl (.inr (.inl ⟨rfl, .inr rfl⟩)) rfl) ?_
   refine U.Rst.take (fun _ _ _ _ _ h => h) 7 _ 17 (.int .u64 (old : Int)) rfl (by kernel_rfl) rfl (by kernel_rfl) (by kernel_rfl) hT (fun w' hw => U.Reg.ld1 rfl rfl (by rw [Nat.zero_add]; exact hw.2.2.2) (Tryz.isAgg85 _)) ?_
   refine U.Rst.take (fun _ _ _ _ _ h => h) 8 _ 18 (.int .u64 (t : Int)) rfl (by kernel_rfl) rfl (by kernel_rfl) (by kernel_rfl) hT (fun w' hw => U.Reg.ld1 rfl rfl (by simp [World.cell?, hw.2.1]) (Tryz.isAgg85 _)) ?_
   refine U.Rst.take (fun _ _ _ _ _ h => h) 9 _ 19 (.int .u64 ((old ||| t : Nat) : Int)) rfl (by kernel_rfl) rfl (by kernel_rfl) (by kernel_rfl) hT (fun w' hw => Reg.orU rfl rfl rfl hold ht rfl) ?_
   refine U.Rst.only 10 _ 20 rfl (by kernel_rfl) rfl (by kernel_rfl) (by kernel_rfl) ⟨.pointer (some ⟨g, 0 + k * 2, none⟩), _, U.Reg.ix rfl rfl rfl hk Tryz.underlying84 (elemSize84 _), hT, ?_⟩
   refine U.Rst.only 11 _ 21 rfl (by kernel_rfl) rfl (by kernel_rfl) (by kernel_rfl) ⟨.pointer (some ⟨g, 0 + k * 2 + 1, none⟩), _, Reg.faG rfl (.inr (.inl ⟨rfl, .inr rfl⟩)) rfl, hT, ?_⟩
   refine U.Rst.last _ rfl (by kernel_rfl) rfl (by kernel_rfl) (by kernel_rfl) ⟨_, U.Reg.st1 rfl rfl rfl (by rw [Nat.zero_add]; exact d1) (by
     obtain ⟨_, _, cur, hcur⟩ := hgk
     exact U.frozen_at hcur) (.inl ⟨_, _, rfl⟩) (Tryz.sizeOf85 _), ?_⟩
   refine U.Rst.done (by kernel_rfl) ?_
   rw [show 0 + k * 2 + 1 = k * 2 + 1 by omega]
   have hf1 := hput (old ||| t)
   rw [HFin.out] at hf1
   have hne : ∀ b, b ≠ g → (a1.drew.setCell ⟨g, k * 2 + 1, none⟩ (.int .u64 ((old ||| t : Nat) : Int))).heap[b]? = a1.heap[b]? := fun b hb => Below.heap_setCell _ _ _ _ hb
   have hgl : g < w.heap.size := hS (fun _ => false) g (.inr (.inl rfl))
   obtain ⟨hBg, _, cur, hcur⟩ := hgk
   have hpf : PF B A a1 (a1.drew.setCell ⟨g, k * 2 + 1, none⟩ (.int .u64 ((old ||| t : Nat) : Int))) := ⟨rfl, rfl, rfl, by simp [World.setCell], fun b hb => hne b (by omega), fun b _ _ h9 => hne b (by rintro rfl; exact h9 ⟨_, _, hcur⟩)⟩
   exact ⟨⟨hf1.keep fun _ _ => rfl, (hne _ (by omega)).trans hT.1, (hne _ (by omega)).trans hT.2.1, h4.trans hpf⟩, fun b hb _ => hne b (by omega), hpf.size⟩
 case fin =>
   rintro W ⟨h1, _, _, h4⟩ h2 h3
   rw [List.take_length, qsS_congr (S' := f.testBit) (fun j hj => by
     rw [Bool.eq_iff_iff, decide_eq_true_eq, mem_plc]
     exact ⟨fun h => h.2, fun h => ⟨by omega, h⟩⟩)] at h1
   refine ⟨by simp, .inl ⟨_, _, rfl, run_takeDeferred h2, ?_⟩⟩
   have hb := below_putL (n := X.heap.size) W (.deferred none) (Nat.le_refl _)
   exact ⟨.tuple #[], by simp [results, Tryz.results64, go_sem], ⟨_, rfl⟩, h1.keep fun k hk => hb.block k (by have := hS _ k hk; omega), h4.stay hb (by omega) (by omega)⟩
theorem join_any {w : World} {B A : Nat} {v : Value} {qs : List (PA.Pl × Value)} {x : PA.En} (hA : AutoW w B A v qs x) (f t : Nat) (hf : f < 2 ^ qs.length) (ht : t < 2 ^ 64) (hq : ∀ q ∈ qs, q.1.2 < 2 ^ 64) (hlen : qs.length ≤ 63) (h0 : 0 < B) (hd : Deb w) :
   Calls Tryz.prog 64 #[.pointer (some ⟨A, 0, none⟩), .int .u64 (f : Int), .int .u64 (t : Int)] w fun e W' => (∃ u, e = .returned u) ∧ AutoW W' B A v (qsS f.testBit t qs) x ∧ PF B A w W' := callsIn_wide.1 (join_in hA f t hf ht hq hlen h0 hd)
end Go.Proofs.YtgngaldoemopjaaGreatDoor
namespace Go.Proofs.YtgngaldoemopjaaGreatDoor.U
open Go.RowKit Go.Shelf
attribute [local go_sem] Oper.semAt_some
def S.hB (l : List S.R) (p : Int) : Bool := S.hasB (S.goods l) p
theorem S.hB_iff (l : List S.R) (p : Int) : S.hB l p = true ↔ S.hs l p := S.hasB_iff _ _
end Go.Proofs.YtgngaldoemopjaaGreatDoor.U
