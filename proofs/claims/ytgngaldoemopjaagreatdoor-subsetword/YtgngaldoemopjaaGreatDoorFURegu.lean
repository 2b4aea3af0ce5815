/- Joined: Sbz ULop URegu. -/
import Derived.Test.YtgngaldoemopjaaGreatDoorFUOrd
import Derived.Test.YtgngaldoemopjaaGreatDoorFSbh
import Derived.Test.YtgngaldoemopjaaGreatDoorFSbo
import Derived.Test.YtgngaldoemopjaaGreatDoorFJB
import Derived.Test.YtgngaldoemopjaaGreatDoorFPsp
import Derived.Maps.AppendAt
namespace Go.Proofs.YtgngaldoemopjaaGreatDoor
open Go.RowKit Go.Shelf
attribute [local go_sem] Oper.semAt_some
set_option maxRecDepth 100000 in
set_option maxHeartbeats 1000000 in
theorem set_own {w : World} {B A : Nat} {v : Value} {qs : List (PA.Pl × Value)} {x : PA.En} (h : AutoW w B A v qs x) (hsl : ∀ q ∈ qs, q.1.1.length ≤ 1000000) (k : Nat) (hk : k < qs.length) : Calls Tryz.prog 71 #[.pointer (some ⟨A, 0, none⟩), .int .i64 (k : Int)] w fun e w' =>
   ∃ v', e = .returned v' ∧ U.OwnR w' w.heap.size 140 v' qs[k].1.1 ∧ Below w.heap.size w w' := by
 have hp := isPlace_any h (k : Int)
 obtain ⟨c0, _, _, _⟩ := h.cells
 obtain ⟨g, cap, rfl, d0, d1⟩ := h.row k hk
 rw [show (decide (0 ≤ (k : Int)) && decide ((k : Int) < qs.length)) = true by simp; omega] at hp
 obtain ⟨ao, ca, e1, _, _, hrd⟩ := (h.set qs[k] (List.getElem_mem hk)).rd
 rw [e1] at d0
 have hcl := cloneR_any ao ca qs[k].1.1 (hsl _ (List.getElem_mem hk)) w hrd
 have es := elemSize84
 generalize qs[k].1.1 = f at *
 go_enter Tryz.func71, Tryz.ntmps71
 go_wp2_with fail
 refine hp.mono ?_
 rintro e w1 ⟨rfl, rfl⟩
 go_wp2_with fail
 refine hcl.mono ?_
 rintro e W ⟨v', rfl, ho, hb⟩
 go_wp2
 go_ret
 exact ⟨_, rfl, ho, hb⟩
theorem info22L : (Tryz.prog.info? 22).map (fun i => (i.zero, i.size, i.bytes)) = some (some (.slice none 0 0), 1, 24) := by kernel_rfl
structure OwnL (W : World) (B : Nat) (v : Value) (l : List (Value × List U.S.R)) : Prop where
 own : W.ownsRow B 22 1 v l.length (l.map (·.1))
 row : ∀ p ∈ l, U.OwnR W B 140 p.1 p.2
theorem OwnL.later {W W' : World} {B : Nat} {v : Value} {l : List (Value × List U.S.R)} (h : OwnL W B v l) (hb : Below W.heap.size W W') : OwnL W' B v l where
 own := own_same3 h.own fun g hg => by
   obtain ⟨_, cs, h4⟩ := own_tag3 h.own hg
   exact hb.block g (Array.getElem?_eq_some_iff.1 h4).1
 row := fun p hp => own_same3 (h.row p hp) fun g hg => by
   obtain ⟨_, cs, h4⟩ := own_tag3 (h.row p hp) hg
   exact hb.block g (Array.getElem?_eq_some_iff.1 h4).1
theorem OwnL.snoc {W w1 : World} {B n : Nat} {v v1 v' : Value} {l : List (Value × List U.S.R)} {f : List U.S.R} {o : Obj} (h : OwnL W B v l) (hn : l.length = n) (hr : U.OwnR W B 140 v' f)
   (hown : w1.ownsRow B 22 1 v1 (n + 1) (l.map (·.1) ++ [v'])) (hg : (W.alloc o).grownBy w1 v.ownBlock) : OwnL w1 B v1 (l ++ [(v', f)]) where
 own := by rw [List.length_append, List.map_append, hn]; exact hown
 row := fun p hp => by
   have key : ∀ q : Value × List U.S.R, U.OwnR W B 140 q.1 q.2 → U.OwnR w1 B 140 q.1 q.2 := fun q hq => own_same3 hq fun g hgo => by
     obtain ⟨_, cs, h4⟩ := own_tag3 hq hgo
     refine grown_at hg (Array.getElem?_eq_some_iff.1 h4).1 fun e => ?_
     obtain ⟨_, cs', h5⟩ := own_tag3 h.own e
     rw [h4] at h5
     cases h5
   rcases List.mem_append.1 hp with h1 | h1
   · exact key p (h.row p h1)
   · rw [List.mem_singleton.1 h1]
     exact key (v', f) hr
set_option maxRecDepth 100000 in
set_option maxHeartbeats 4000000 in
theorem sets39 {w : World} {B A : Nat} {a : PA.Au} (h : AutoAt w B A a.w a.pl) (hg : PA.Good a) :
   Calls Tryz.prog 39 #[.pointer (some ⟨A, 0, none⟩)] w fun e W => ∃ v l, e = .returned v ∧ l.map (·.2) = a.pl.map (·.1) ∧ OwnL W w.heap.size v l ∧ Below w.heap.size w W := by
 have hlen := AutoAt.len (a := a) h
 have hl60 := hg.len
 have HS := hide (fun W (hb : Below w.heap.size w W) (k : Nat) (hk : k < a.pl.length) => (show Calls Tryz.prog 71 #[.pointer (some ⟨A, 0, none⟩), .int .i64 (k : Int)] W fun e w' => ∃ v', e = Ending.returned v' ∧ U.OwnR w' W.heap.size 140 v' (a.pl[k]).1 ∧ Below W.heap.size W w' from by
   obtain ⟨v, qs, hq, h2⟩ := h.later hb
   have hk2 : k < qs.length := by rw [← hq, List.length_map] at hk; exact hk
   have h3 := set_own h2 (fun q hq' => by have := hg.set q.1 (by rw [← hq]; exact List.mem_map_of_mem hq'); omega) k hk2
   have e : (a.pl[k]).1 = qs[k].1.1 := by
     have : a.pl[k]? = (qs.map (·.1))[k]? := by rw [hq]
     rw [List.getElem?_eq_getElem hk, List.getElem?_map, List.getElem?_eq_getElem hk2] at this
     rw [Option.some.inj this]
   rw [e]
   exact h3))
 obtain ⟨i0, hi0, hz0, hz1, hz2⟩ : ∃ i, Tryz.prog.info? 22 = some i ∧ i.zero = some (.slice none 0 0) ∧ i.size = 1 ∧ i.bytes = 24 := by
   have h := info22L
   cases hi : Tryz.prog.info? 22 with
   | none => rw [hi] at h; cases h
   | some i => rw [hi] at h; simp at h; exact ⟨i, rfl, h.1, h.2.1, h.2.2⟩
 obtain ⟨n, hn⟩ : ∃ n, a.pl.length = n := ⟨_, rfl⟩
 rw [hn] at hlen hl60
 have HN := hide hn
 have hn2 : ∀ k, k < n → k < a.pl.length := fun k hk => by omega
 clear h hg hn
 go_enter Tryz.func39, Tryz.ntmps39
 go_wp2_with fail
 refine hlen.mono ?_
 rintro e W0 ⟨rfl, rfl⟩
 clear hlen
 go_wp2
 go_loopw [3, 7] (fun p u wr => ∃ (i : Nat) (l : List (Value × List U.S.R)), u = .int .i64 (i : Int) ∧ i ≤ n ∧ l.length = i ∧ Hid (l.map (·.2) = (a.pl.take i).map (·.1)) ∧ Hid (OwnL wr W0.heap.size p l) ∧ Below W0.heap.size W0 wr) (fun _ u _ => n - (intOf u).toNat)
 case atStart => exact ⟨0, [], rfl, Nat.zero_le _, rfl, hide rfl, hide ⟨World.ownsRow_nil _ _ _ _, fun p hp => by cases hp⟩, Below.refl _ _⟩
 case round =>
   obtain ⟨i, l, rfl, hi, rfl, HM, HO, hB⟩ := hrel
   obtain ⟨po, pc, rfl⟩ := own_slice3 HO.out.own
   by_cases hlt : l.length < n
   · have hcall := HS.out wr hB l.length (hn2 _ hlt)
     have HT : Hid ((a.pl.take (l.length + 1)).map (·.1) = l.map (·.2) ++ [(a.pl[l.length]'(hn2 _ hlt)).1]) := hide (by
       rw [List.take_succ_eq_append_getElem (hn2 _ hlt), List.map_append, ← HM.out]; rfl)
     generalize (a.pl[l.length]'(hn2 _ hlt)).1 = f at *
     go_wp2_with fail
     refine hcall.mono ?_
     rintro e W2 ⟨v', rfl, ho, hb2⟩
     obtain ⟨a2, c2, rfl⟩ := own_slice3 ho
     have hL2 := HO.out.later hb2
     have ho2 : U.OwnR W2 W0.heap.size 140 (.slice a2 f.length c2) f := (ho : W2.ownsRow _ _ _ _ _ _).imp id (fun h => h.imp id fun ⟨g, cap, cur, e, hb, hr⟩ => ⟨g, cap, cur, e, Nat.le_trans hB.size hb, hr⟩)
     have hOa : (W2.alloc (.cells #[.slice a2 f.length c2] 22)).ownsRow W0.heap.size 22 1 (.slice po l.length pc) l.length (l.map (·.1)) := own_same3 hL2.own fun q hq => by
       obtain ⟨_, cs, h4⟩ := own_tag3 hL2.own hq
       exact Below.heap_alloc _ _ _ (Array.getElem?_eq_some_iff.1 h4).1
     have hB2 := nx hB hb2
     have hs2 := hB2.size
     have HF := hide (fun (w1 : World) (v1 : Value) hown hg => OwnL.snoc (w1 := w1) (v1 := v1) (o := .cells #[.slice a2 f.length c2] 22) hL2 rfl ho2 hown hg)
     have HBN := hide (fun (w1 : World) (hg : (W2.alloc (.cells #[.slice a2 f.length c2] 22)).grownBy w1 (Value.slice po l.length pc).ownBlock) => (show Below W0.heap.size W0 w1 from ⟨hg.os.trans hB2.os, hg.tape.trans hB2.tape, hg.output.trans hB2.output, by have := hg.size; rw [World.size_alloc] at this; omega, fun i hi => (grown_at hg (by omega) (fun e => by have := (own_tag3 hL2.own e).1; omega)).trans (hB2.block i hi)⟩))
     clear hcall ho ho2 hb2 hL2
     go_wp2_with (at_builtin; (refine wpList_append_own_at _ rfl _ _ 93 rfl W0.heap.size 22 i0 (.slice none 0 0) 1 24 Tryz.underlying93 hi0 hz0 hz1 hz2 rfl (by decide) (.slice po l.length pc) l.length (l.map (·.1)) rfl hOa ⟨W2.heap.size, 0, none⟩ 1 1 [.slice a2 f.length c2] rfl rfl (cell_one_new _ _ _) (by simp [Value.oneCell']) (by unfold maxLen; omega) (by omega) (by simp; omega) ?_; intro v1 w1 hown' hgrow _ hat; have HO2 := hide (HF.out w1 v1 hown' hgrow); have HB2 := hide (HBN.out w1 hgrow); clear hown' hgrow hat))
     go_roundw
     case rel => exact ⟨l.length + 1, l ++ [(.slice a2 f.length c2, f)], by go_num, by omega, by simp, hide (by rw [HT.out]; simp), HO2, HB2.out⟩
     case measure => simp [intOf] <;> omega
   · have hle : l.length = n := by omega
     have HF : Hid (l.map (·.2) = a.pl.map (·.1)) := hide (by rw [HM.out, List.take_of_length_le (by rw [HN.out]; omega)])
     go_wp2
     go_ret
     exact ⟨_, l, rfl, HF.out, HO.out, hB⟩
end Go.Proofs.YtgngaldoemopjaaGreatDoor
namespace Go.Proofs.YtgngaldoemopjaaGreatDoor.U
open Go.RowKit Go.Shelf
attribute [local go_sem] Oper.semAt_some
variable {w : World} {ρ : Operand → Value} {o : Oper}
theorem yield_any {m : Nat} (m' : Nat) {l : Nat} {args : Array Value} {W : World} {R : Ending → World → Prop} (h : YieldAt Fence.wide m Tryz.prog l args W R) : YieldAt Fence.wide m' Tryz.prog l args W R := by
 obtain ⟨f, t, c, b, hy, h1, h2⟩ := h
 exact ⟨f, t, c, b, hy, h1, fun x xs _ => h2 x xs (room_wide _)⟩
theorem enterW_size (w : World) (tmps : Array Value) (ps : Array Tmp) (assign body : Code) (fn : FuncId) : (enterW w tmps ps assign body fn).heap.size = w.heap.size + 2 := by simp [enterW]
theorem enterW_below (w : World) (tmps : Array Value) (ps : Array Tmp) (assign body : Code) (fn : FuncId) : Below w.heap.size w (enterW w tmps ps assign body fn) := al2 w _ _
theorem enter_law {n : Nat} {g : Operand} {ps : Array Tmp} {assign body : Code} {Q : Exit → Act → World → Prop} {a : Act} {w : World} {gf : Nat} {lb : Array Value}
   (hg : a.eval g = .func (.func gf) #[] lb) (eg : ∀ args w, (callFunc gf args).run Tryz.prog w = .ok (.enter gf args) w)
   (h : ∀ fn, CallsIn Fence.wide (n - 1) Tryz.prog gf (#[.func (.yield (w.heap.size + 1)) #[] #[]] ++ lb) (enterW w a.tmps ps assign body fn) fun e W' =>
     (∃ v, e = .returned v) ∧ W'.heap[w.heap.size + 1]? = some (.loop (recOf w a.tmps ps assign body fn .ready)) ∧
       Q .normal { a with defers := { target := .collected w.heap.size, args := #[] } :: a.defers } (W'.putObj (w.heap.size + 1) (.loop (recOf w a.tmps ps assign body fn .exhausted)))) :
   (Code.rangeFunc g ps assign body).wpIn Fence.wide n Tryz.prog Q a w := by
 refine wpIn_rangeFunc fun fn _ => ?_
 refine ⟨w.heap.size + 1, [{ target := .collected w.heap.size, args := #[] }], enterW w a.tmps ps assign body fn, { target := .fn (.func gf) lb, args := #[.func (.yield (w.heap.size + 1)) #[] #[]] }, enterW w a.tmps ps assign body fn, gf,
   #[.func (.yield (w.heap.size + 1)) #[] #[]] ++ lb, enterW w a.tmps ps assign body fn, run_enterLoop_outer _ _ _ _ _, ?_, fun _ _ => trivial, ?_, fun hd => (by cases hd), ?_⟩
 · simp only [resolve, hg]
   simp [go_sem]
 · simp [invoke, go_sem, eg]
 · refine (h fn).mono ?_
   rintro e W' ⟨⟨v, rfl⟩, hl, hQ⟩
   exact ⟨none, _, run_endLoop (P := Tryz.prog) hl (by simp [recOf]), hQ⟩
theorem yield_law {l m : Nat} {r : Loop} (hs : r.state = .ready) (hp : r.pending = none) {W : World} (hl : W.heap[l]? = some (.loop r)) {args : Array Value} (hsz : args.size = r.params.size) {R : Ending → World → Prop}
   (h : r.assign.wpIn (Fence.wide.inRound l) m Tryz.prog (Exit.then (fun a' Wa => Wa.heap[l]? = some (.loop r) ∧
     r.body.wpIn (Fence.wide.inRound l) m Tryz.prog (Exit.then (fun _ W3 => W3.heap[l]? = some (.loop { r with state := .busy }) ∧ R (.returned (.bool true)) (W3.putObj l (.loop r))) (fun _ _ _ => False)) a' (Wa.putObj l (.loop { r with state := .busy }))) (fun _ _ _ => False))
     { tmps := (r.params.zip args).foldl (fun t (p, v) => t.setIfInBounds p v) r.tmps, defers := [] } W) : YieldAt Fence.wide m Tryz.prog l args W R := by
 refine ⟨r.fn, _, r.assign, r.body, run_yield (P := Tryz.prog) hl hsz, roundIn_of_wpIn trivial (wpIn_mono h ?_)⟩
 intro e a1 w1 he
 cases e with
 | normal =>
   obtain ⟨h1, h2⟩ := he
   refine ⟨_, run_beginRound h1 hs, wpIn_mono h2 ?_⟩
   intro e a3 w3 he3
   cases e with
   | normal =>
     obtain ⟨h3, h4⟩ := he3
     have := run_endRound (P := Tryz.prog) none h3
     have e1 : ({ ({ r with state := .busy } : Loop) with state := if (none : Option Code).isNone then .ready else .done, pending := none } : Loop) = r := by
       cases r
       simp at hs hp ⊢
       exact ⟨hs.symm, hp.symm⟩
     rw [e1] at this
     exact ⟨_, _, this, h4⟩
   | ret => exact he3.elim
   | exit id => exact he3.elim
   | goto t => exact he3.elim
   | panic ch => exact he3.elim
   | outgrown => exact he3.elim
 | ret => exact he.elim
 | exit id => exact he.elim
 | goto t => exact he.elim
 | panic ch => exact he.elim
 | outgrown => exact he.elim
theorem enter_law2 {n : Nat} {g : Operand} {ps : Array Tmp} {assign body : Code} {Q : Exit → Act → World → Prop} {a : Act} {w : World} {gf : Nat} {lb : Array Value}
   (hg : a.eval g = .func (.func gf) #[] lb) (eg : ∀ args w, (callFunc gf args).run Tryz.prog w = .ok (.enter gf args) w)
   (h : ∀ (r : Loop) (We : World), Hid (r.state = .ready ∧ r.pending = none ∧ r.params = ps ∧ r.tmps = a.tmps ∧ r.assign = assign ∧ r.body = body) → Hid (We.heap[w.heap.size + 1]? = some (.loop r)) → Hid (We.heap[w.heap.size]? = some (.deferred (some []))) → We.heap.size = w.heap.size + 2 → Below w.heap.size w We →
     CallsIn Fence.wide (n - 1) Tryz.prog gf (#[.func (.yield (w.heap.size + 1)) #[] #[]] ++ lb) We fun e W' =>
       (∃ v, e = .returned v) ∧ W'.heap[w.heap.size + 1]? = some (.loop r) ∧
         ∀ r' : Loop, Q .normal { a with defers := { target := .collected w.heap.size, args := #[] } :: a.defers } (W'.putObj (w.heap.size + 1) (.loop r'))) :
   (Code.rangeFunc g ps assign body).wpIn Fence.wide n Tryz.prog Q a w := by
 refine enter_law hg eg fun fn => ?_
 refine (h (recOf w a.tmps ps assign body fn .ready) (enterW w a.tmps ps assign body fn) ⟨rfl, rfl, rfl, rfl, rfl, rfl⟩ (enterW_rec _ _ _ _ _ _) (enterW_def _ _ _ _ _ _) (enterW_size _ _ _ _ _ _) (enterW_below _ _ _ _ _ _)).mono ?_
 rintro e W' ⟨h1, h2, h3⟩
 exact ⟨h1, h2, h3 _⟩
theorem yield_law2 {l m : Nat} {r : Loop} {ps : Array Tmp} {tmps : Array Value} {assign body : Code} (hr : Hid (r.state = .ready ∧ r.pending = none ∧ r.params = ps ∧ r.tmps = tmps ∧ r.assign = assign ∧ r.body = body)) {W : World} (hl : W.heap[l]? = some (.loop r)) {args : Array Value} (hsz : args.size = ps.size) {R : Ending → World → Prop}
   (h : assign.wpIn (Fence.wide.inRound l) m Tryz.prog (Exit.then (fun a' Wa => Wa.heap[l]? = some (.loop r) ∧
     ∀ rb, body.wpIn (Fence.wide.inRound l) m Tryz.prog (Exit.then (fun _ W3 => W3.heap[l]? = some (.loop rb) ∧ R (.returned (.bool true)) (W3.putObj l (.loop r))) (fun _ _ _ => False)) a' (Wa.putObj l (.loop rb))) (fun _ _ _ => False))
     { tmps := (ps.zip args).foldl (fun t (p, v) => t.setIfInBounds p v) tmps, defers := [] } W) : YieldAt Fence.wide m Tryz.prog l args W R := by
 obtain ⟨h1, h2, h3, h4, h5, h6⟩ := hr.out
 refine yield_law h1 h2 hl (by rw [h3]; exact hsz) ?_
 rw [h3, h4, h5, h6]
 refine wpIn_mono h ?_
 intro e a1 w1 he
 cases e with
 | normal => exact ⟨he.1, he.2 _⟩
 | ret => exact he.elim
 | exit id => exact he.elim
 | goto t => exact he.elim
 | panic ch => exact he.elim
 | outgrown => exact he.elim
theorem Reg.xor64 {P : Program} {w : World} {ρ : Operand → Value} {o : Oper} {t t' : TypeId} {x y : Operand} {a b c : Int} (hop : o.op = .binOp .xor t x y t') (hx : ρ x = .int .u64 a) (hy : ρ y = .int .u64 b) (hc : bits .xor .u64 a b = c) : (execOp ρ o).run P w = .ok (.value (.int .u64 c)) w := by
 obtain ⟨dst, op, type, pos, after, guard⟩ := o
 simp only at hop
 subst hop
 simp [execOp, hx, hy, eqGuard, Sem.run_pure, hc, go_sem]
theorem Reg.bd {P : Program} {t : TypeId} {ps : Array (Nat × Operand)} {vs : Array (Nat × Value)} {cs : Array Value} (hop : o.op = .build t ps) (hx : ps.map (fun (i, x) => (i, ρ x)) = vs) (h : P.built t vs.toList = some cs) : (execOp ρ o).run P w = .ok (.value (.agg cs)) w := by
 obtain ⟨dst, op, type, pos, after, guard⟩ := o
 simp only at hop
 subst hop
 simp only [execOp]
 rw [hx, Sem.run_bind, run_build w t vs cs h]
 rfl
end Go.Proofs.YtgngaldoemopjaaGreatDoor.U
namespace Go.Proofs.YtgngaldoemopjaaGreatDoor.U
open Go.RowKit Go.Shelf
def ops11 : Array Oper := #[{ dst := some 39, op := Go.Op.load 91 (Go.Operand.tmp 3), type := 91, pos := "classes.go:46", after := #[], guard := none },
 { dst := some 40, op := Go.Op.load 91 (Go.Operand.tmp 3), type := 91, pos := "classes.go:46", after := #[], guard := none },
 { dst := some 41, op := Go.Op.nilCheck (Go.Operand.tmp 40), type := 0, pos := "classes.go:46", after := #[{ on := 1, ground := Go.Ground.data }], guard := none },
 { dst := some 42, op := Go.Op.fieldAddr 69 (Go.Operand.tmp 41) 1, type := 0, pos := "classes.go:46", after := #[{ on := 2, ground := Go.Ground.data }], guard := none },
 { dst := some 43, op := Go.Op.load 66 (Go.Operand.tmp 42), type := 66, pos := "classes.go:46", after := #[{ on := 3, ground := Go.Ground.data }], guard := none },
 { dst := some 44, op := Go.Op.move (Go.Operand.tmp 6), type := 141, pos := "classes.go:46", after := #[], guard := none },
 { dst := some 45, op := Go.Op.build 143 #[(0, Go.Operand.tmp 44)], type := 143, pos := "classes.go:46", after := #[{ on := 5, ground := Go.Ground.data }], guard := none },
 { dst := some 46, op := Go.Op.buildSlice 66 1 #[(0, Go.Operand.tmp 45)], type := 66, pos := "classes.go:46", after := #[{ on := 6, ground := Go.Ground.data }], guard := none },
 { dst := some 47, op := Go.Op.call { callee := Go.Callee.builtin Go.Builtin.append, args := #[Go.Operand.tmp 43, Go.Operand.tmp 46], argTypes := #[66, 66] }, type := 66, pos := "classes.go:46", after := #[{ on := 4, ground := Go.Ground.data }, { on := 7, ground := Go.Ground.data }], guard := none },
 { dst := some 48, op := Go.Op.nilCheck (Go.Operand.tmp 39), type := 0, pos := "classes.go:46", after := #[{ on := 0, ground := Go.Ground.data }, { on := 0, ground := Go.Ground.phase }, { on := 1, ground := Go.Ground.phase }, { on := 2, ground := Go.Ground.phase }, { on := 3, ground := Go.Ground.phase }, { on := 4, ground := Go.Ground.phase }, { on := 5, ground := Go.Ground.phase }, { on := 6, ground := Go.Ground.phase }, { on := 7, ground := Go.Ground.phase }, { on := 8, ground := Go.Ground.phase }], guard := none },
 { dst := some 49, op := Go.Op.fieldAddr 69 (Go.Operand.tmp 48) 1, type := 0, pos := "classes.go:46", after := #[{ on := 9, ground := Go.Ground.data }, { on := 0, ground := Go.Ground.phase }, { on := 1, ground := Go.Ground.phase }, { on := 2, ground := Go.Ground.phase }, { on := 3, ground := Go.Ground.phase }, { on := 4, ground := Go.Ground.phase }, { on := 5, ground := Go.Ground.phase }, { on := 6, ground := Go.Ground.phase }, { on := 7, ground := Go.Ground.phase }, { on := 8, ground := Go.Ground.phase }], guard := none },
 { dst := none, op := Go.Op.store 66 (Go.Operand.tmp 49) (Go.Operand.tmp 47), type := 0, pos := "classes.go:46", after := #[{ on := 10, ground := Go.Ground.data }, { on := 8, ground := Go.Ground.data }, { on := 8, ground := Go.Ground.chain }, { on := 0, ground := Go.Ground.phase }, { on := 1, ground := Go.Ground.phase }, { on := 2, ground := Go.Ground.phase }, { on := 3, ground := Go.Ground.phase }, { on := 4, ground := Go.Ground.phase }, { on := 5, ground := Go.Ground.phase }, { on := 6, ground := Go.Ground.phase }, { on := 7, ground := Go.Ground.phase }, { on := 8, ground := Go.Ground.phase }], guard := none }]
def ops12 : Array Oper := #[{ dst := some 50, op := Go.Op.load 91 (Go.Operand.tmp 3), type := 91, pos := "classes.go:48", after := #[], guard := none },
 { dst := some 51, op := Go.Op.nilCheck (Go.Operand.tmp 50), type := 0, pos := "classes.go:48", after := #[{ on := 0, ground := Go.Ground.data }], guard := none },
 { dst := some 52, op := Go.Op.fieldAddr 69 (Go.Operand.tmp 51) 1, type := 0, pos := "classes.go:48", after := #[{ on := 1, ground := Go.Ground.data }], guard := none },
 { dst := some 53, op := Go.Op.load 66 (Go.Operand.tmp 52), type := 66, pos := "classes.go:48", after := #[{ on := 2, ground := Go.Ground.data }], guard := none },
 { dst := some 54, op := Go.Op.move (Go.Operand.tmp 7), type := 3, pos := "classes.go:48", after := #[], guard := none },
 { dst := some 55, op := Go.Op.load 91 (Go.Operand.tmp 3), type := 91, pos := "classes.go:48", after := #[], guard := none },
 { dst := some 56, op := Go.Op.nilCheck (Go.Operand.tmp 55), type := 0, pos := "classes.go:48", after := #[{ on := 5, ground := Go.Ground.data }], guard := none },
 { dst := some 57, op := Go.Op.fieldAddr 69 (Go.Operand.tmp 56) 1, type := 0, pos := "classes.go:48", after := #[{ on := 6, ground := Go.Ground.data }], guard := none },
 { dst := some 58, op := Go.Op.load 66 (Go.Operand.tmp 57), type := 66, pos := "classes.go:48", after := #[{ on := 7, ground := Go.Ground.data }], guard := none },
 { dst := some 59, op := Go.Op.move (Go.Operand.tmp 7), type := 3, pos := "classes.go:48", after := #[], guard := none },
 { dst := some 60, op := Go.Op.indexAddr 66 (Go.Operand.tmp 58) (Go.Operand.tmp 59), type := 0, pos := "classes.go:48", after := #[{ on := 8, ground := Go.Ground.data }, { on := 9, ground := Go.Ground.data }], guard := none },
 { dst := some 61, op := Go.Op.fieldAddr 143 (Go.Operand.tmp 60) 1, type := 0, pos := "classes.go:48", after := #[{ on := 10, ground := Go.Ground.data }], guard := none },
 { dst := some 62, op := Go.Op.load 22 (Go.Operand.tmp 61), type := 22, pos := "classes.go:48", after := #[{ on := 11, ground := Go.Ground.data }], guard := none },
 { dst := some 63, op := Go.Op.load 140 (Go.Operand.tmp 5), type := 140, pos := "classes.go:48", after := #[], guard := none },
 { dst := some 64, op := Go.Op.buildSlice 22 1 #[(0, Go.Operand.tmp 63)], type := 22, pos := "classes.go:48", after := #[{ on := 13, ground := Go.Ground.data }], guard := none },
 { dst := some 65, op := Go.Op.call { callee := Go.Callee.builtin Go.Builtin.append, args := #[Go.Operand.tmp 62, Go.Operand.tmp 64], argTypes := #[22, 22] }, type := 22, pos := "classes.go:48", after := #[{ on := 12, ground := Go.Ground.data }, { on := 14, ground := Go.Ground.data }], guard := none },
 { dst := some 66, op := Go.Op.indexAddr 66 (Go.Operand.tmp 53) (Go.Operand.tmp 54), type := 0, pos := "classes.go:48", after := #[{ on := 3, ground := Go.Ground.data }, { on := 4, ground := Go.Ground.data }, { on := 0, ground := Go.Ground.phase }, { on := 1, ground := Go.Ground.phase }, { on := 2, ground := Go.Ground.phase }, { on := 3, ground := Go.Ground.phase }, { on := 4, ground := Go.Ground.phase }, { on := 5, ground := Go.Ground.phase }, { on := 6, ground := Go.Ground.phase }, { on := 7, ground := Go.Ground.phase }, { on := 8, ground := Go.Ground.phase }, { on := 9, ground := Go.Ground.phase }, { on := 10, ground := Go.Ground.phase }, { on := 11, ground := Go.Ground.phase }, { on := 12, ground := Go.Ground.phase }, { on := 13, ground := Go.Ground.phase }, { on := 14, ground := Go.Ground.phase }, { on := 15, ground := Go.Ground.phase }], guard := none },
 { dst := some 67, op := Go.Op.fieldAddr 143 (Go.Operand.tmp 66) 1, type := 0, pos := "classes.go:48", after := #[{ on := 16, ground := Go.Ground.data }, { on := 0, ground := Go.Ground.phase }, { on := 1, ground := Go.Ground.phase }, { on := 2, ground := Go.Ground.phase }, { on := 3, ground := Go.Ground.phase }, { on := 4, ground := Go.Ground.phase }, { on := 5, ground := Go.Ground.phase }, { on := 6, ground := Go.Ground.phase }, { on := 7, ground := Go.Ground.phase }, { on := 8, ground := Go.Ground.phase }, { on := 9, ground := Go.Ground.phase }, { on := 10, ground := Go.Ground.phase }, { on := 11, ground := Go.Ground.phase }, { on := 12, ground := Go.Ground.phase }, { on := 13, ground := Go.Ground.phase }, { on := 14, ground := Go.Ground.phase }, { on := 15, ground := Go.Ground.phase }], guard := none },
 { dst := none, op := Go.Op.store 22 (Go.Operand.tmp 67) (Go.Operand.tmp 65), type := 0, pos := "classes.go:48", after := #[{ on := 17, ground := Go.Ground.data }, { on := 15, ground := Go.Ground.data }, { on := 15, ground := Go.Ground.chain }, { on := 0, ground := Go.Ground.phase }, { on := 1, ground := Go.Ground.phase }, { on := 2, ground := Go.Ground.phase }, { on := 3, ground := Go.Ground.phase }, { on := 4, ground := Go.Ground.phase }, { on := 5, ground := Go.Ground.phase }, { on := 6, ground := Go.Ground.phase }, { on := 7, ground := Go.Ground.phase }, { on := 8, ground := Go.Ground.phase }, { on := 9, ground := Go.Ground.phase }, { on := 10, ground := Go.Ground.phase }, { on := 11, ground := Go.Ground.phase }, { on := 12, ground := Go.Ground.phase }, { on := 13, ground := Go.Ground.phase }, { on := 14, ground := Go.Ground.phase }, { on := 15, ground := Go.Ground.phase }], guard := none }]
def ops13 : Array Oper := #[{ dst := some 68, op := Go.Op.load 91 (Go.Operand.tmp 3), type := 91, pos := "classes.go:49", after := #[], guard := none },
 { dst := some 69, op := Go.Op.load 91 (Go.Operand.tmp 3), type := 91, pos := "classes.go:49", after := #[], guard := none },
 { dst := some 70, op := Go.Op.nilCheck (Go.Operand.tmp 69), type := 0, pos := "classes.go:49", after := #[{ on := 1, ground := Go.Ground.data }], guard := none },
 { dst := some 71, op := Go.Op.fieldAddr 69 (Go.Operand.tmp 70) 2, type := 0, pos := "classes.go:49", after := #[{ on := 2, ground := Go.Ground.data }], guard := none },
 { dst := some 72, op := Go.Op.load 67 (Go.Operand.tmp 71), type := 67, pos := "classes.go:49", after := #[{ on := 3, ground := Go.Ground.data }], guard := none },
 { dst := some 73, op := Go.Op.fieldAddr 140 (Go.Operand.tmp 5) 0, type := 0, pos := "classes.go:49", after := #[], guard := none },
 { dst := some 74, op := Go.Op.load 21 (Go.Operand.tmp 73), type := 21, pos := "classes.go:49", after := #[{ on := 5, ground := Go.Ground.data }], guard := none },
 { dst := some 75, op := Go.Op.move (Go.Operand.tmp 7), type := 3, pos := "classes.go:49", after := #[], guard := none },
 { dst := some 76, op := Go.Op.build 123 #[(0, Go.Operand.tmp 74), (1, Go.Operand.tmp 75)], type := 123, pos := "classes.go:49", after := #[{ on := 6, ground := Go.Ground.data }, { on := 7, ground := Go.Ground.data }], guard := none },
 { dst := some 77, op := Go.Op.buildSlice 67 1 #[(0, Go.Operand.tmp 76)], type := 67, pos := "classes.go:49", after := #[{ on := 8, ground := Go.Ground.data }], guard := none },
 { dst := some 78, op := Go.Op.call { callee := Go.Callee.builtin Go.Builtin.append, args := #[Go.Operand.tmp 72, Go.Operand.tmp 77], argTypes := #[67, 67] }, type := 67, pos := "classes.go:49", after := #[{ on := 4, ground := Go.Ground.data }, { on := 9, ground := Go.Ground.data }], guard := none },
 { dst := some 79, op := Go.Op.nilCheck (Go.Operand.tmp 68), type := 0, pos := "classes.go:49", after := #[{ on := 0, ground := Go.Ground.data }, { on := 0, ground := Go.Ground.phase }, { on := 1, ground := Go.Ground.phase }, { on := 2, ground := Go.Ground.phase }, { on := 3, ground := Go.Ground.phase }, { on := 4, ground := Go.Ground.phase }, { on := 5, ground := Go.Ground.phase }, { on := 6, ground := Go.Ground.phase }, { on := 7, ground := Go.Ground.phase }, { on := 8, ground := Go.Ground.phase }, { on := 9, ground := Go.Ground.phase }, { on := 10, ground := Go.Ground.phase }], guard := none },
 { dst := some 80, op := Go.Op.fieldAddr 69 (Go.Operand.tmp 79) 2, type := 0, pos := "classes.go:49", after := #[{ on := 11, ground := Go.Ground.data }, { on := 0, ground := Go.Ground.phase }, { on := 1, ground := Go.Ground.phase }, { on := 2, ground := Go.Ground.phase }, { on := 3, ground := Go.Ground.phase }, { on := 4, ground := Go.Ground.phase }, { on := 5, ground := Go.Ground.phase }, { on := 6, ground := Go.Ground.phase }, { on := 7, ground := Go.Ground.phase }, { on := 8, ground := Go.Ground.phase }, { on := 9, ground := Go.Ground.phase }, { on := 10, ground := Go.Ground.phase }], guard := none },
 { dst := none, op := Go.Op.store 67 (Go.Operand.tmp 80) (Go.Operand.tmp 78), type := 0, pos := "classes.go:49", after := #[{ on := 12, ground := Go.Ground.data }, { on := 10, ground := Go.Ground.data }, { on := 10, ground := Go.Ground.chain }, { on := 0, ground := Go.Ground.phase }, { on := 1, ground := Go.Ground.phase }, { on := 2, ground := Go.Ground.phase }, { on := 3, ground := Go.Ground.phase }, { on := 4, ground := Go.Ground.phase }, { on := 5, ground := Go.Ground.phase }, { on := 6, ground := Go.Ground.phase }, { on := 7, ground := Go.Ground.phase }, { on := 8, ground := Go.Ground.phase }, { on := 9, ground := Go.Ground.phase }, { on := 10, ground := Go.Ground.phase }], guard := none }]
theorem Reg.fa {P : Program} {w : World} {ρ : Operand → Value} {o : Oper} {t : TypeId} {x : Operand} {f : Nat} {v u : Value} (hop : o.op = .fieldAddr t x f) (hx : ρ x = v) (h : (Instr.fieldAt t v f).run P w = .ok u w) : (execOp ρ o).run P w = .ok (.value u) w := by
 obtain ⟨dst, op, type, pos, after, guard⟩ := o
 simp only at hop
 subst hop
 simp [execOp, hx, h, Result.andThen]
theorem fa54_1 (w : World) (b off : Nat) : (Instr.fieldAt 69 (.pointer (some ⟨b, off, none⟩)) 1).run Tryz.prog w = .ok (.pointer (some ⟨b, off + 1, none⟩)) w := by kernel_rfl
theorem fa54_2 (w : World) (b off : Nat) : (Instr.fieldAt 69 (.pointer (some ⟨b, off, none⟩)) 2).run Tryz.prog w = .ok (.pointer (some ⟨b, off + 2, none⟩)) w := by kernel_rfl
theorem fa63_1 (w : World) (b off : Nat) : (Instr.fieldAt 143 (.pointer (some ⟨b, off, none⟩)) 1).run Tryz.prog w = .ok (.pointer (some ⟨b, off + 1, none⟩)) w := by kernel_rfl
theorem fa48_0 (w : World) (b off : Nat) : (Instr.fieldAt 140 (.pointer (some ⟨b, off, none⟩)) 0).run Tryz.prog w = .ok (.pointer (some ⟨b, off, none⟩)) w := by kernel_rfl
theorem Reg.look_low {a : Act} {t : Nat} : ∀ {l : List (Nat × Value)}, (∀ p ∈ l, t < p.1) → Reg.look a l t = a.tmps.getD t undef
 | [], _ => rfl
 | p :: l, h => by
   have hne : Nat.beq p.1 t = false := by
     cases hb : Nat.beq p.1 t with
     | true => have := Nat.eq_of_beq_eq_true hb; have := h p (by simp); omega
     | false => rfl
   simp only [Reg.look, hne, cond_false]
   exact Reg.look_low fun q hq => h q (by simp [hq])
def Fr (a a' : Act) : Prop := a'.tmps.size = a.tmps.size ∧ ∀ t, t < 39 → a'.tmps.getD t undef = a.tmps.getD t undef
theorem fr_ov {a : Act} {l : List (Nat × Value)} (hb : Reg.inB a l = true) (hl : (l.all fun p => Nat.ble 39 p.1) = true) : Fr a (Reg.ov a l) :=
 ⟨Reg.ov_size a l, fun t ht => by
   rw [Reg.ov_look a t l hb]
   refine Reg.look_low fun p hp => ?_
   have := Nat.le_of_ble_eq_true (List.all_eq_true.1 hl p hp)
   omega⟩
theorem app_one {T e : TypeId} {z0 z1 : Value} {by_ : Nat} (hT : Tryz.prog.underlying T = some (.slice e)) (hI : (Tryz.prog.info? e).map (fun i => (i.zero, i.size, i.bytes)) = some (some (.agg #[z0, z1]), 2, by_)) (hz : (Value.agg #[z0, z1]).cells.size = 2) (hby : by_ ≤ 64)
   (ty : TypeId) {w : World} {B N : Nat} {v c0 c1 : Value} {xs : List Value} (ho : w.ownsRow B e 2 v N xs) (hB : B ≤ w.heap.size) (hN : N ≤ 10000000) (h0 : c0.oneCell' = true) (h1 : c1.oneCell' = true) :
   ∃ v' w', (Builtin.append_ #[T, T] ty #[v, .slice (some ⟨w.heap.size, 0, none⟩) 1 1]).run Tryz.prog (w.alloc (.cells #[c0, c1] e)) = .ok v' w' ∧ w'.ownsRow B e 2 v' (N + 1) (xs ++ [c0, c1]) ∧ Chg (fun k => some k = v.ownBlock) w w' ∧
     (v'.ownBlock = v.ownBlock ∨ ∃ g, v'.ownBlock = some g ∧ w.heap.size ≤ g) ∧ (∃ g cap, v' = .slice (some ⟨g, 0, none⟩) (N + 1) cap) := by
 obtain ⟨i0, hi, hz0, hz1, hz2⟩ := info_parts2 hI
 have hnew := World.alloc_heap_new w (.cells #[c0, c1] e)
 have hc := cells_two hnew
 obtain ⟨v', w', hr, h2, h3, h4, h5⟩ := run_append_own_at (P := Tryz.prog) (w.alloc (.cells #[c0, c1] e)) B T ty e i0 _ 2 by_ hT hi hz0 hz1 hz2 hz (by decide) v N xs (ho.alloc _) ⟨w.heap.size, 0, none⟩ 1 1 [c0, c1] rfl
   (fun j u hu => by
     match j, hu with
     | 0, hu => simp at hu; subst hu; exact hc.1
     | 1, hu => simp at hu; subst hu; exact hc.2
     | j + 2, hu => simp at hu) (by simp [h0, h1]) (by unfold maxLen; omega) (by
       have : (N + 1) * by_ ≤ (N + 1) * 64 := Nat.mul_le_mul_left _ hby
       omega) (by simp; omega)
 refine ⟨v', w', hr, h2, ⟨h3.os, h3.tape, h3.output, Nat.le_trans (by simp) h3.size, fun k hk hp => (h3.block k (by simp; omega) hp).trans (Below.heap_alloc _ _ _ hk)⟩, ?_, ?_⟩
 · rcases h5 with h5 | h5
   · exact .inl h5
   · exact .inr ⟨_, h5, by simp⟩
 · obtain ⟨_, ⟨_, h⟩ | ⟨g, cap, _, h, _⟩⟩ := h2
   · cases h
   · exact ⟨g, cap, h⟩
end Go.Proofs.YtgngaldoemopjaaGreatDoor.U
