/- MatchLaws: its twelve are made. -/
import Derived.Test.YteaaijhppmkfeaaGreatDoorLwr
namespace Go.Proofs.YteaaijhppmkfeaaGreatDoor
open Go.RowKit Go.Shelf
open E (Ps Rx T rxOf Vp)
attribute [local go_sem] Oper.semAt_some run_eqB run_len44
def ops7 : Array Oper := #[⟨some 51, .load 26 (.tmp 4), 26, "family.go:29", #[], none⟩, ⟨some 52, .load 26 (.tmp 5), 26, "family.go:29", #[], none⟩, ⟨some 53, .call { callee := .value (.func 44), args := #[.const (.int .i64 5), .tmp 51, .tmp 52], argTypes := #[3, 26, 26] }, 26, "family.go:30", #[⟨0, .data⟩, ⟨1, .data⟩], none⟩, ⟨some 54, .load 26 (.tmp 5), 26, "family.go:29", #[], none⟩, ⟨some 55, .load 26 (.tmp 4), 26, "family.go:29", #[], none⟩, ⟨some 56, .call { callee := .value (.func 44), args := #[.const (.int .i64 5), .tmp 54, .tmp 55], argTypes := #[3, 26, 26] }, 26, "family.go:30", #[⟨3, .data⟩, ⟨4, .data⟩, ⟨2, .chain⟩], none⟩, ⟨some 57, .build 65 #[(0, .tmp 53), (1, .tmp 56)], 65, "family.go:29", #[⟨2, .data⟩, ⟨5, .data⟩], none⟩, ⟨some 58, .load 26 (.tmp 4), 26, "family.go:29", #[], none⟩, ⟨some 59, .load 26 (.tmp 4), 26, "family.go:29", #[], none⟩, ⟨some 60, .call { callee := .value (.func 44), args := #[.const (.int .i64 5), .tmp 58, .tmp 59], argTypes := #[3, 26, 26] }, 26, "family.go:31", #[⟨7, .data⟩, ⟨8, .data⟩, ⟨5, .chain⟩], none⟩, ⟨some 61, .load 26 (.tmp 4), 26, "family.go:29", #[], none⟩, ⟨some 62, .build 65 #[(0, .tmp 60), (1, .tmp 61)], 65, "family.go:29", #[⟨9, .data⟩, ⟨10, .data⟩], none⟩, ⟨some 63, .load 26 (.tmp 4), 26, "family.go:29", #[], none⟩, ⟨some 64, .load 26 (.tmp 5), 26, "family.go:29", #[], none⟩, ⟨some 65, .call { callee := .value (.func 44), args := #[.const (.int .i64 4), .tmp 63, .tmp 64], argTypes := #[3, 26, 26] }, 26, "family.go:32", #[⟨12, .data⟩, ⟨13, .data⟩, ⟨9, .chain⟩], none⟩, ⟨some 66, .load 26 (.tmp 6), 26, "family.go:29", #[], none⟩, ⟨some 67, .call { callee := .value (.func 44), args := #[.const (.int .i64 4), .tmp 65, .tmp 66], argTypes := #[3, 26, 26] }, 26, "family.go:32", #[⟨14, .data⟩, ⟨15, .data⟩, ⟨14, .chain⟩], none⟩, ⟨some 68, .load 26 (.tmp 4), 26, "family.go:29", #[], none⟩, ⟨some 69, .load 26 (.tmp 5), 26, "family.go:29", #[], none⟩, ⟨some 70, .load 26 (.tmp 6), 26, "family.go:29", #[], none⟩, ⟨some 71, .call { callee := .value (.func 44), args := #[.const (.int .i64 4), .tmp 69, .tmp 70], argTypes := #[3, 26, 26] }, 26, "family.go:32", #[⟨18, .data⟩, ⟨19, .data⟩, ⟨16, .chain⟩], none⟩, ⟨some 72, .call { callee := .value (.func 44), args := #[.const (.int .i64 4), .tmp 68, .tmp 71], argTypes := #[3, 26, 26] }, 26, "family.go:32", #[⟨17, .data⟩, ⟨20, .data⟩, ⟨20, .chain⟩], none⟩, ⟨some 73, .build 65 #[(0, .tmp 67), (1, .tmp 72)], 65, "family.go:29", #[⟨16, .data⟩, ⟨21, .data⟩], none⟩, ⟨some 74, .load 26 (.tmp 10), 26, "family.go:29", #[], none⟩, ⟨some 75, .call { callee := .value (.func 43), args := #[.const (.int .i64 6), .tmp 74], argTypes := #[3, 26] }, 26, "family.go:33", #[⟨23, .data⟩, ⟨21, .chain⟩], none⟩, ⟨some 76, .load 26 (.tmp 10), 26, "family.go:29", #[], none⟩, ⟨some 77, .build 65 #[(0, .tmp 75), (1, .tmp 76)], 65, "family.go:29", #[⟨24, .data⟩, ⟨25, .data⟩], none⟩, ⟨some 78, .load 26 (.tmp 4), 26, "family.go:29", #[], none⟩, ⟨some 79, .load 26 (.tmp 5), 26, "family.go:29", #[], none⟩, ⟨some 80, .load 26 (.tmp 6), 26, "family.go:29", #[], none⟩, ⟨some 81, .call { callee := .value (.func 44), args := #[.const (.int .i64 5), .tmp 79, .tmp 80], argTypes := #[3, 26, 26] }, 26, "family.go:34", #[⟨28, .data⟩, ⟨29, .data⟩, ⟨24, .chain⟩], none⟩, ⟨some 82, .call { callee := .value (.func 44), args := #[.const (.int .i64 4), .tmp 78, .tmp 81], argTypes := #[3, 26, 26] }, 26, "family.go:34", #[⟨27, .data⟩, ⟨30, .data⟩, ⟨30, .chain⟩], none⟩, ⟨some 83, .load 26 (.tmp 4), 26, "family.go:29", #[], none⟩, ⟨some 84, .load 26 (.tmp 5), 26, "family.go:29", #[], none⟩, ⟨some 85, .call { callee := .value (.func 44), args := #[.const (.int .i64 4), .tmp 83, .tmp 84], argTypes := #[3, 26, 26] }, 26, "family.go:34", #[⟨32, .data⟩, ⟨33, .data⟩, ⟨31, .chain⟩], none⟩, ⟨some 86, .load 26 (.tmp 4), 26, "family.go:29", #[], none⟩, ⟨some 87, .load 26 (.tmp 6), 26, "family.go:29", #[], none⟩, ⟨some 88, .call { callee := .value (.func 44), args := #[.const (.int .i64 4), .tmp 86, .tmp 87], argTypes := #[3, 26, 26] }, 26, "family.go:34", #[⟨35, .data⟩, ⟨36, .data⟩, ⟨34, .chain⟩], none⟩, ⟨some 89, .call { callee := .value (.func 44), args := #[.const (.int .i64 5), .tmp 85, .tmp 88], argTypes := #[3, 26, 26] }, 26, "family.go:34", #[⟨34, .data⟩, ⟨37, .data⟩, ⟨37, .chain⟩], none⟩, ⟨some 90, .build 65 #[(0, .tmp 82), (1, .tmp 89)], 65, "family.go:29", #[⟨31, .data⟩, ⟨38, .data⟩], none⟩, ⟨some 91, .load 26 (.tmp 4), 26, "family.go:29", #[], none⟩, ⟨some 92, .call { callee := .value (.func 43), args := #[.const (.int .i64 8), .tmp 91], argTypes := #[3, 26] }, 26, "family.go:35", #[⟨40, .data⟩, ⟨38, .chain⟩], none⟩, ⟨some 93, .load 26 (.tmp 9), 26, "family.go:29", #[], none⟩, ⟨some 94, .load 26 (.tmp 4), 26, "family.go:29", #[], none⟩, ⟨some 95, .call { callee := .value (.func 44), args := #[.const (.int .i64 5), .tmp 93, .tmp 94], argTypes := #[3, 26, 26] }, 26, "family.go:35", #[⟨42, .data⟩, ⟨43, .data⟩, ⟨41, .chain⟩], none⟩, ⟨some 96, .build 65 #[(0, .tmp 92), (1, .tmp 95)], 65, "family.go:29", #[⟨41, .data⟩, ⟨44, .data⟩], none⟩, ⟨some 97, .build 66 #[(0, .tmp 57), (1, .tmp 62), (2, .tmp 73), (3, .tmp 77), (4, .tmp 90), (5, .tmp 96)], 66, "family.go:29", #[⟨6, .data⟩, ⟨11, .data⟩, ⟨22, .data⟩, ⟨26, .data⟩, ⟨39, .data⟩, ⟨45, .data⟩], none⟩, ⟨some 11, .alloc 66, 0, "family.go:29", #[], none⟩, ⟨none, .store 66 (.tmp 11) (.tmp 97), 0, "family.go:29", #[⟨47, .data⟩, ⟨46, .data⟩, ⟨44, .chain⟩, ⟨0, .phase⟩, ⟨1, .phase⟩, ⟨2, .phase⟩, ⟨3, .phase⟩, ⟨4, .phase⟩, ⟨5, .phase⟩, ⟨6, .phase⟩, ⟨7, .phase⟩, ⟨8, .phase⟩, ⟨9, .phase⟩, ⟨10, .phase⟩, ⟨11, .phase⟩, ⟨12, .phase⟩, ⟨13, .phase⟩, ⟨14, .phase⟩, ⟨15, .phase⟩, ⟨16, .phase⟩, ⟨17, .phase⟩, ⟨18, .phase⟩, ⟨19, .phase⟩, ⟨20, .phase⟩, ⟨21, .phase⟩, ⟨22, .phase⟩, ⟨23, .phase⟩, ⟨24, .phase⟩, ⟨25, .phase⟩, ⟨26, .phase⟩, ⟨27, .phase⟩, ⟨28, .phase⟩, ⟨29, .phase⟩, ⟨30, .phase⟩, ⟨31, .phase⟩, ⟨32, .phase⟩, ⟨33, .phase⟩, ⟨34, .phase⟩, ⟨35, .phase⟩, ⟨36, .phase⟩, ⟨37, .phase⟩, ⟨38, .phase⟩, ⟨39, .phase⟩, ⟨40, .phase⟩, ⟨41, .phase⟩, ⟨42, .phase⟩, ⟨43, .phase⟩, ⟨44, .phase⟩, ⟨45, .phase⟩, ⟨46, .phase⟩, ⟨47, .phase⟩], none⟩]
def fr7 (da db dc : ND) (v3 : Value) (n N R : Nat) (us : Nat → Value) : Act := { tmps := #[da.v, db.v, dc.v, v3, .pointer (some ⟨n, 0, none⟩), .pointer (some ⟨n + 1, 0, none⟩), .pointer (some ⟨n + 1 + 1, 0, none⟩), undef, .bool false, .pointer (some ⟨N, 0, none⟩), .pointer (some ⟨R, 0, none⟩), undef, undef, us 13, us 14, us 15, us 16, us 17, us 18, us 19, us 20, us 21, us 22, us 23, us 24, us 25, us 26, us 27, us 28, us 29, us 30, us 31, us 32, us 33, us 34, us 35, us 36, us 37, us 38, us 39, us 40, us 41, us 42, us 43, us 44, us 45, us 46, us 47, us 48, us 49, us 50, undef, undef, undef, undef, undef, undef, undef, undef, undef, undef, undef, undef, undef, undef, undef, undef, undef, undef, undef, undef, undef, undef, undef, undef, undef, undef, undef, undef, undef, undef, undef, undef, undef, undef, undef, undef, undef, undef, undef, undef, undef, undef, undef, undef, undef, undef, undef, undef, undef, undef, undef, undef, undef, undef, undef, undef, undef, undef, undef, undef, undef, undef, undef, undef, undef, undef, undef, undef, undef, undef, undef, undef, undef, undef, undef, undef, undef, undef, undef, undef, undef, undef, undef, undef, undef], defers := [] }
def fr8 (da db dc : ND) (v3 : Value) (n N R b11 : Nat) (us : Nat → Value) : Act := { tmps := #[da.v, db.v, dc.v, v3, .pointer (some ⟨n, 0, none⟩), .pointer (some ⟨n + 1, 0, none⟩), .pointer (some ⟨n + 1 + 1, 0, none⟩), undef, .bool false, .pointer (some ⟨N, 0, none⟩), .pointer (some ⟨R, 0, none⟩), .pointer (some ⟨b11, 0, none⟩), undef, us 13, us 14, us 15, us 16, us 17, us 18, us 19, us 20, us 21, us 22, us 23, us 24, us 25, us 26, us 27, us 28, us 29, us 30, us 31, us 32, us 33, us 34, us 35, us 36, us 37, us 38, us 39, us 40, us 41, us 42, us 43, us 44, us 45, us 46, us 47, us 48, us 49, us 50, us 51, us 52, us 53, us 54, us 55, us 56, us 57, us 58, us 59, us 60, us 61, us 62, us 63, us 64, us 65, us 66, us 67, us 68, us 69, us 70, us 71, us 72, us 73, us 74, us 75, us 76, us 77, us 78, us 79, us 80, us 81, us 82, us 83, us 84, us 85, us 86, us 87, us 88, us 89, us 90, us 91, us 92, us 93, us 94, us 95, us 96, us 97, undef, undef, undef, undef, undef, undef, undef, undef, undef, undef, undef, undef, undef, undef, undef, undef, undef, undef, undef, undef, undef, undef, undef, undef, undef, undef, undef, undef, undef, undef, undef, undef, undef, undef, undef, undef, undef, undef], defers := [] }
theorem TRs.c {X : World} {ok : Nat → Prop} {l : List (T × ND)} {t : T} {d : ND} (h : TR X ok t d.v) (hl : TRs X ok l) : TRs X ok ((t, d) :: l) := fun p hp => by
 rcases List.mem_cons.1 hp with rfl | hp
 · exact h
 · exact hl p hp
structure Hld (ta tb tc : T) (da db dc ds : ND) (ok : Nat → Prop) (l : List (T × ND)) (X : World) : Prop where
 a : TR X ok ta da.v
 b : TR X ok tb db.v
 c : TR X ok tc dc.v
 s : TR X ok (t1 6 ta) ds.v
 m : TRs X ok l
 o : ∀ b, X.heap.size ≤ b → ok b
theorem Hld.nx {ta tb tc : T} {da db dc ds : ND} {ok : Nat → Prop} {l : List (T × ND)} {X Y : World} (h : Hld ta tb tc da db dc ds ok l X) (hb : Below X.heap.size X Y) : Hld ta tb tc da db dc ds ok l Y :=
 ⟨TR.later (fun k hk => hb.block k hk) _ h.a, TR.later (fun k hk => hb.block k hk) _ h.b, TR.later (fun k hk => hb.block k hk) _ h.c, TR.later (fun k hk => hb.block k hk) _ h.s, fun p hp => TR.later (fun k hk => hb.block k hk) _ (h.m p hp), fun b hb' => h.o b (Nat.le_trans hb.size hb')⟩
theorem Hld.more {ta tb tc : T} {da db dc ds : ND} {ok : Nat → Prop} {l : List (T × ND)} {X Y : World} (h : Hld ta tb tc da db dc ds ok l X) (hb : Below X.heap.size X Y) {t : T} {d : ND} (hd : TR Y ok t d.v) : Hld ta tb tc da db dc ds ok ((t, d) :: l) Y :=
 let k := h.nx hb
 ⟨k.a, k.b, k.c, k.s, TRs.c hd k.m, k.o⟩
theorem Hld.alloc {ta tb tc : T} {da db dc ds : ND} {l : List (T × ND)} {X : World} (h : Hld ta tb tc da db dc ds (fun _ => True) l X) (o : Obj) : Hld ta tb tc da db dc ds (fun b => b ≠ X.heap.size) l (X.alloc o) := by
 have a1 := al1 X o
 have z : (X.alloc o).heap.size = X.heap.size + 1 := by simp
 have f : ∀ {t : T} {v : Value}, TR X (fun _ => True) t v → TR (X.alloc o) (fun b => b ≠ X.heap.size) t v := fun h => TR.later (fun k hk => a1.block k hk) _ (TR.mono (fun b hb _ => by omega) _ h)
 exact ⟨f h.a, f h.b, f h.c, f h.s, fun p hp => f (h.m p hp), fun b hb => by omega⟩
theorem Hld.put {ta tb tc : T} {da db dc ds : ND} {bA : Nat} {l : List (T × ND)} {X Y : World} (h : Hld ta tb tc da db dc ds (fun b => b ≠ bA) l X) (hs : ∀ k, k < X.heap.size → k ≠ bA → Y.heap[k]? = X.heap[k]?) (hx : NoI X bA) : Hld ta tb tc da db dc ds (fun _ => True) l Y := by
 have f : ∀ {t : T} {v : Value}, TR X (fun b => b ≠ bA) t v → TR Y (fun _ => True) t v := fun h => TR.mono (fun _ _ _ => trivial) _ (TR.but hs hx (fun h => h rfl) _ h)
 exact ⟨f h.a, f h.b, f h.c, f h.s, fun p hp => f (h.m p hp), fun _ _ => trivial⟩
theorem z66_noI {X : World} {b : Nat} (h : X.heap[b]? = some (.cells z66 66)) : NoI X b := noI_cells (cs := (List.replicate 12 [Value.int .i64 0, .int .i64 0, .slice none 0 0, .string ⟨#[]⟩, .slice none 0 0]).flatMap id) h (by decide)
theorem Cur.put {w X Y : World} {da db dc ds : ND} {N R B : Nat} (h : Cur w da db dc ds N R X) (h0 : w.heap.size + 1 + 1 < B) (hN : N < B) (hR : R < B) (hY : Below B X Y) : Cur w da db dc ds N R Y :=
 ⟨⟨h.s.bel.trans (hY.mono (by omega)), (hY.block _ (by omega)).trans h.s.ba, (hY.block _ (by omega)).trans h.s.bb, (hY.block _ (by omega)).trans h.s.bc⟩, (hY.block _ hN).trans h.n, (hY.block _ hR).trans h.r⟩
theorem cs60 (l : List ND) (hl : l.length = 12) : (l.flatMap ND.cs).toArray.size = 60 ∧ (l.flatMap ND.cs).toArray.all (·.oneCell') = true := by
 match l, hl with
 | [a, b, c, d, e, f, g, h, i, j, k, m], _ => exact ⟨rfl, by simp [ND.cs, Value.oneCell']⟩
theorem fin7 {Q : Exit → Act → World → Prop} {ta tb tc : T} {da db dc ds : ND} {v3 : Value} {w : World} {N R : Nat}
   (HK : ∀ (us : Nat → Value) (b11 : Nat) (l : List ND) (W : World), Cur w da db dc ds N R W → Hld ta tb tc da db dc ds (fun _ => True) ((ttL ta tb tc).zip l) W → l.length = 12 → W.heap[b11]? = some (.cells (l.flatMap ND.cs).toArray 66) → Q .normal (fr8 da db dc v3 w.heap.size N R b11 us) W)
   {A : Act} {W : World} (b11 : Nat) (l : List ND) (h1 : Cur w da db dc ds N R W) (h2 : Hld ta tb tc da db dc ds (fun _ => True) ((ttL ta tb tc).zip l) W) (h3 : l.length = 12) (h4 : W.heap[b11]? = some (.cells (l.flatMap ND.cs).toArray 66)) (us : Nat → Value) (hA : A = fr8 da db dc v3 w.heap.size N R b11 us) : Q .normal A W := by
 rw [hA]; exact HK us b11 l W h1 h2 h3 h4
def kf0 : List Nat := [42, 43, 40, 36, 35, 33, 32, 29, 28, 27, 25, 23, 19, 18, 17, 15, 13, 12, 10, 8, 7, 4, 3, 1, 0]
def lf0 (da db dc ds : ND) : List (Nat × Value) := [(93, d0.v), (94, da.v), (91, da.v), (87, dc.v), (86, da.v), (84, db.v), (83, da.v), (80, dc.v), (79, db.v), (78, da.v), (76, ds.v), (74, ds.v), (70, dc.v), (69, db.v), (68, da.v), (66, dc.v), (64, db.v), (63, da.v), (61, da.v), (59, da.v), (58, da.v), (55, da.v), (54, db.v), (52, db.v), (51, da.v)]
structure Env7 (ta tb tc : T) (da db dc ds : ND) (w : World) (N R B : Nat) (v3 : Value) (Q : Exit → Act → World → Prop) : Prop where
 q : ∀ c (a : Act) (d : Nat) v w, Q (.panic c) (a.put (some d) v) w → Q (.panic c) a w
 g0 : w.heap.size + 1 + 1 < B
 gN : N < B
 gR : R < B
 k : ∀ (us : Nat → Value) (b11 : Nat) (l : List ND) (W : World), Cur w da db dc ds N R W → Hld ta tb tc da db dc ds (fun _ => True) ((ttL ta tb tc).zip l) W → l.length = 12 → W.heap[b11]? = some (.cells (l.flatMap ND.cs).toArray 66) → Q .normal (fr8 da db dc v3 w.heap.size N R b11 us) W
structure Sh7 (ta tb tc : T) (da db dc ds : ND) (w : World) (N R B : Nat) (ok : Nat → Prop) (l : List (T × ND)) (X : World) : Prop where
 c : Cur w da db dc ds N R X
 h : Hld ta tb tc da db dc ds ok l X
 v : B ≤ X.heap.size
theorem Sh7.more {ta tb tc : T} {da db dc ds : ND} {w : World} {N R B : Nat} {ok : Nat → Prop} {l : List (T × ND)} {X Y : World} (s : Sh7 ta tb tc da db dc ds w N R B ok l X) (hb : Below X.heap.size X Y) {t : T} {d : ND} (hd : TR Y ok t d.v) : Sh7 ta tb tc da db dc ds w N R B ok ((t, d) :: l) Y :=
 ⟨s.c.nx hb, s.h.more hb hd, Nat.le_trans s.v hb.size⟩
theorem Sh7.alloc {ta tb tc : T} {da db dc ds : ND} {w : World} {N R B : Nat} {l : List (T × ND)} {X : World} (s : Sh7 ta tb tc da db dc ds w N R B (fun _ => True) l X) (o : Obj) : Sh7 ta tb tc da db dc ds w N R B (fun b => b ≠ X.heap.size) l (X.alloc o) :=
 ⟨s.c.nx (al1 X o), s.h.alloc o, Nat.le_trans s.v (al1 X o).size⟩
theorem cong7 {Q : Exit → Act → World → Prop} {a : Act} {B fuel : Nat} {ks ks2 : List Nat} {l l2 : List (Nat × Value)} {X : World} (h1 : Reg.lst ops7.size ks = Reg.lst ops7.size ks2) (h2 : Reg.ov a l = Reg.ov a l2) (h : Reg.G Tryz.prog ops7 Q a B fuel ks2 l2 X) : Reg.G Tryz.prog ops7 Q a B fuel ks l X := by
 unfold Reg.G at h ⊢
 rw [h1, h2]; exact h
section
set_option maxRecDepth 100000
variable {ta tb tc : T} {da db dc ds : ND} {w : World} {N R B : Nat} {v3 : Value} {us : Nat → Value} {Q : Exit → Act → World → Prop}
abbrev G7 (da db dc : ND) (v3 : Value) (w : World) (N R : Nat) (us : Nat → Value) (Q : Exit → Act → World → Prop) (B f : Nat) (ks : List Nat) (l : List (Nat × Value)) (X : World) : Prop := Reg.G Tryz.prog ops7 Q (fr7 da db dc v3 w.heap.size N R us) B f ks l X
theorem h7_15 (E : Env7 ta tb tc da db dc ds w N R B v3 Q) {d53 d56 d60 d65 d67 d71 d72 d75 d81 d82 d85 d88 d89 d92 d95 : ND} {X : World} {bA : Nat} (S : Sh7 ta tb tc da db dc ds w N R B (fun b => b ≠ bA) [((t2 5 t0 ta), d95), ((t1 8 ta), d92), ((t2 5 (t2 4 ta tb) (t2 4 ta tc)), d89), ((t2 4 ta tc), d88), ((t2 4 ta tb), d85), ((t2 4 ta (t2 5 tb tc)), d82), ((t2 5 tb tc), d81), ((t1 6 (t1 6 ta)), d75), ((t2 4 ta (t2 4 tb tc)), d72), ((t2 4 tb tc), d71), ((t2 4 (t2 4 ta tb) tc), d67), ((t2 4 ta tb), d65), ((t2 5 ta ta), d60), ((t2 5 tb ta), d56), ((t2 5 ta tb), d53)] X) (HA : X.heap[bA]? = some (.cells z66 66)) (hb : B ≤ bA) :
   G7 da db dc v3 w N R us Q B 1 (47 :: 46 :: 45 :: 44 :: 41 :: 39 :: 38 :: 37 :: 34 :: 31 :: 30 :: 26 :: 24 :: 22 :: 21 :: 20 :: 16 :: 14 :: 11 :: 9 :: 6 :: 5 :: 2 :: kf0) ((11, .pointer (some ⟨bA, 0, none⟩)) :: (97, .agg ([d53, d56, d60, da, d67, d72, d75, ds, d82, d89, d92, d95].flatMap ND.cs).toArray) :: (96, .agg (d92.cs ++ d95.cs).toArray) :: (95, d95.v) :: (92, d92.v) :: (90, .agg (d82.cs ++ d89.cs).toArray) :: (89, d89.v) :: (88, d88.v) :: (85, d85.v) :: (82, d82.v) :: (81, d81.v) :: (77, .agg (d75.cs ++ ds.cs).toArray) :: (75, d75.v) :: (73, .agg (d67.cs ++ d72.cs).toArray) :: (72, d72.v) :: (71, d71.v) :: (67, d67.v) :: (65, d65.v) :: (62, .agg (d60.cs ++ da.cs).toArray) :: (60, d60.v) :: (57, .agg (d53.cs ++ d56.cs).toArray) :: (56, d56.v) :: (53, d53.v) :: lf0 da db dc ds) X := by
 have hc := cs60 [d53, d56, d60, da, d67, d72, d75, ds, d82, d89, d92, d95] rfl
 have hY : Below B X (X.setRow bA ([d53, d56, d60, da, d67, d72, d75, ds, d82, d89, d92, d95].flatMap ND.cs).toArray) := ⟨rfl, rfl, rfl, by simp [World.setRow], fun k hk => setRow_other X bA k _ (by omega)⟩
 refine Reg.one 48 (by kernel_rfl) (Reg.brN 48 _ rfl rfl (by kernel_rfl) (by kernel_rfl) ⟨_, B, st66 rfl (by kernel_rfl) (by kernel_rfl) HA hc.1 hc.2, Nat.le_refl _, hY, ?_⟩)
 refine Reg.done (by kernel_rfl) ?_
 have HP := S.h.put (Y := X.setRow bA ([d53, d56, d60, da, d67, d72, d75, ds, d82, d89, d92, d95].flatMap ND.cs).toArray) (fun k _ hk => setRow_other X bA k _ hk) (z66_noI HA)
 exact fin7 E.k bA [d53, d56, d60, da, d67, d72, d75, ds, d82, d89, d92, d95] (S.c.put E.g0 E.gN E.gR hY) ⟨HP.a, HP.b, HP.c, HP.s, (TRs.c (HP.m ((t2 5 ta tb), d53) (by simp)) (TRs.c (HP.m ((t2 5 tb ta), d56) (by simp)) (TRs.c (HP.m ((t2 5 ta ta), d60) (by simp)) (TRs.c HP.a (TRs.c (HP.m ((t2 4 (t2 4 ta tb) tc), d67) (by simp)) (TRs.c (HP.m ((t2 4 ta (t2 4 tb tc)), d72) (by simp)) (TRs.c (HP.m ((t1 6 (t1 6 ta)), d75) (by simp)) (TRs.c HP.s (TRs.c (HP.m ((t2 4 ta (t2 5 tb tc)), d82) (by simp)) (TRs.c (HP.m ((t2 5 (t2 4 ta tb) (t2 4 ta tc)), d89) (by simp)) (TRs.c (HP.m ((t1 8 ta), d92) (by simp)) (TRs.c (HP.m ((t2 5 t0 ta), d95) (by simp)) (fun p hp => by cases hp))))))))))))), HP.o⟩ rfl (setRow_heap X bA _ _ 66 _ HA) (fun k => ([us 13, us 14, us 15, us 16, us 17, us 18, us 19, us 20, us 21, us 22, us 23, us 24, us 25, us 26, us 27, us 28, us 29, us 30, us 31, us 32, us 33, us 34, us 35, us 36, us 37, us 38, us 39, us 40, us 41, us 42, us 43, us 44, us 45, us 46, us 47, us 48, us 49, us 50, da.v, db.v, d53.v, db.v, da.v, d56.v, .agg (d53.cs ++ d56.cs).toArray, da.v, da.v, d60.v, da.v, .agg (d60.cs ++ da.cs).toArray, da.v, db.v, d65.v, dc.v, d67.v, da.v, db.v, dc.v, d71.v, d72.v, .agg (d67.cs ++ d72.cs).toArray, ds.v, d75.v, ds.v, .agg (d75.cs ++ ds.cs).toArray, da.v, db.v, dc.v, d81.v, d82.v, da.v, db.v, d85.v, da.v, dc.v, d88.v, d89.v, .agg (d82.cs ++ d89.cs).toArray, da.v, d92.v, d0.v, da.v, d95.v, .agg (d92.cs ++ d95.cs).toArray, .agg ([d53, d56, d60, da, d67, d72, d75, ds, d82, d89, d92, d95].flatMap ND.cs).toArray] : List Value).getD (k - 13) undef) (by kernel_rfl)
theorem h7_14 (E : Env7 ta tb tc da db dc ds w N R B v3 Q) {d53 d56 d60 d65 d67 d71 d72 d75 d81 d82 d85 d88 d89 d92 : ND} {X : World} {bA : Nat} (S : Sh7 ta tb tc da db dc ds w N R B (fun b => b ≠ bA) [((t1 8 ta), d92), ((t2 5 (t2 4 ta tb) (t2 4 ta tc)), d89), ((t2 4 ta tc), d88), ((t2 4 ta tb), d85), ((t2 4 ta (t2 5 tb tc)), d82), ((t2 5 tb tc), d81), ((t1 6 (t1 6 ta)), d75), ((t2 4 ta (t2 4 tb tc)), d72), ((t2 4 tb tc), d71), ((t2 4 (t2 4 ta tb) tc), d67), ((t2 4 ta tb), d65), ((t2 5 ta ta), d60), ((t2 5 tb ta), d56), ((t2 5 ta tb), d53)] X) (HA : X.heap[bA]? = some (.cells z66 66)) (hb : B ≤ bA) :
   G7 da db dc v3 w N R us Q B 4 (47 :: 41 :: 39 :: 38 :: 37 :: 34 :: 31 :: 30 :: 26 :: 24 :: 22 :: 21 :: 20 :: 16 :: 14 :: 11 :: 9 :: 6 :: 5 :: 2 :: kf0) ((11, .pointer (some ⟨bA, 0, none⟩)) :: (92, d92.v) :: (90, .agg (d82.cs ++ d89.cs).toArray) :: (89, d89.v) :: (88, d88.v) :: (85, d85.v) :: (82, d82.v) :: (81, d81.v) :: (77, .agg (d75.cs ++ ds.cs).toArray) :: (75, d75.v) :: (73, .agg (d67.cs ++ d72.cs).toArray) :: (72, d72.v) :: (71, d71.v) :: (67, d67.v) :: (65, d65.v) :: (62, .agg (d60.cs ++ da.cs).toArray) :: (60, d60.v) :: (57, .agg (d53.cs ++ d56.cs).toArray) :: (56, d56.v) :: (53, d53.v) :: lf0 da db dc ds) X := by
 refine rcl 44 95 44 #[.int .i64 5, d0.v, da.v] rfl rfl (two_ok _ 5 d0 da _ _ X (tr_d0 _ _) S.h.a S.h.o) ?_
 rintro e Y ⟨⟨d95, rfl, ht⟩, hY⟩
 refine ⟨_, rfl, hY.mono S.v, ?_⟩
 refine rtk 45 96 (.agg (d92.cs ++ d95.cs).toArray) rfl (fun _ _ => by kernel_rfl) ?_ E.q
 refine rtk 46 97 (.agg ([d53, d56, d60, da, d67, d72, d75, ds, d82, d89, d92, d95].flatMap ND.cs).toArray) rfl (fun _ _ => by kernel_rfl) ?_ E.q
 exact cong7 (by kernel_rfl) (by kernel_rfl) (h7_15 E (S.more hY ht) (bx_later HA hY) hb)
theorem h7_13 (E : Env7 ta tb tc da db dc ds w N R B v3 Q) {d53 d56 d60 d65 d67 d71 d72 d75 d81 d82 d85 d88 d89 : ND} {X : World} {bA : Nat} (S : Sh7 ta tb tc da db dc ds w N R B (fun b => b ≠ bA) [((t2 5 (t2 4 ta tb) (t2 4 ta tc)), d89), ((t2 4 ta tc), d88), ((t2 4 ta tb), d85), ((t2 4 ta (t2 5 tb tc)), d82), ((t2 5 tb tc), d81), ((t1 6 (t1 6 ta)), d75), ((t2 4 ta (t2 4 tb tc)), d72), ((t2 4 tb tc), d71), ((t2 4 (t2 4 ta tb) tc), d67), ((t2 4 ta tb), d65), ((t2 5 ta ta), d60), ((t2 5 tb ta), d56), ((t2 5 ta tb), d53)] X) (HA : X.heap[bA]? = some (.cells z66 66)) (hb : B ≤ bA) :
   G7 da db dc v3 w N R us Q B 5 (47 :: 39 :: 38 :: 37 :: 34 :: 31 :: 30 :: 26 :: 24 :: 22 :: 21 :: 20 :: 16 :: 14 :: 11 :: 9 :: 6 :: 5 :: 2 :: kf0) ((11, .pointer (some ⟨bA, 0, none⟩)) :: (90, .agg (d82.cs ++ d89.cs).toArray) :: (89, d89.v) :: (88, d88.v) :: (85, d85.v) :: (82, d82.v) :: (81, d81.v) :: (77, .agg (d75.cs ++ ds.cs).toArray) :: (75, d75.v) :: (73, .agg (d67.cs ++ d72.cs).toArray) :: (72, d72.v) :: (71, d71.v) :: (67, d67.v) :: (65, d65.v) :: (62, .agg (d60.cs ++ da.cs).toArray) :: (60, d60.v) :: (57, .agg (d53.cs ++ d56.cs).toArray) :: (56, d56.v) :: (53, d53.v) :: lf0 da db dc ds) X := by
 refine rcl 41 92 43 #[.int .i64 8, da.v] rfl rfl (one_ok _ 8 da _ X S.h.a S.h.o) ?_
 rintro e Y ⟨⟨d92, rfl, ht⟩, hY⟩
 refine ⟨_, rfl, hY.mono S.v, ?_⟩
 exact cong7 (by kernel_rfl) (by kernel_rfl) (h7_14 E (S.more hY ht) (bx_later HA hY) hb)
theorem h7_12 (E : Env7 ta tb tc da db dc ds w N R B v3 Q) {d53 d56 d60 d65 d67 d71 d72 d75 d81 d82 d85 d88 : ND} {X : World} {bA : Nat} (S : Sh7 ta tb tc da db dc ds w N R B (fun b => b ≠ bA) [((t2 4 ta tc), d88), ((t2 4 ta tb), d85), ((t2 4 ta (t2 5 tb tc)), d82), ((t2 5 tb tc), d81), ((t1 6 (t1 6 ta)), d75), ((t2 4 ta (t2 4 tb tc)), d72), ((t2 4 tb tc), d71), ((t2 4 (t2 4 ta tb) tc), d67), ((t2 4 ta tb), d65), ((t2 5 ta ta), d60), ((t2 5 tb ta), d56), ((t2 5 ta tb), d53)] X) (HA : X.heap[bA]? = some (.cells z66 66)) (hb : B ≤ bA) :
   G7 da db dc v3 w N R us Q B 7 (47 :: 37 :: 34 :: 31 :: 30 :: 26 :: 24 :: 22 :: 21 :: 20 :: 16 :: 14 :: 11 :: 9 :: 6 :: 5 :: 2 :: kf0) ((11, .pointer (some ⟨bA, 0, none⟩)) :: (88, d88.v) :: (85, d85.v) :: (82, d82.v) :: (81, d81.v) :: (77, .agg (d75.cs ++ ds.cs).toArray) :: (75, d75.v) :: (73, .agg (d67.cs ++ d72.cs).toArray) :: (72, d72.v) :: (71, d71.v) :: (67, d67.v) :: (65, d65.v) :: (62, .agg (d60.cs ++ da.cs).toArray) :: (60, d60.v) :: (57, .agg (d53.cs ++ d56.cs).toArray) :: (56, d56.v) :: (53, d53.v) :: lf0 da db dc ds) X := by
 refine rcl 38 89 44 #[.int .i64 5, d85.v, d88.v] rfl rfl (two_ok _ 5 d85 d88 _ _ X (S.h.m ((t2 4 ta tb), d85) (by simp)) (S.h.m ((t2 4 ta tc), d88) (by simp)) S.h.o) ?_
 rintro e Y ⟨⟨d89, rfl, ht⟩, hY⟩
 refine ⟨_, rfl, hY.mono S.v, ?_⟩
 refine rtk 39 90 (.agg (d82.cs ++ d89.cs).toArray) rfl (fun _ _ => by kernel_rfl) ?_ E.q
 exact cong7 (by kernel_rfl) (by kernel_rfl) (h7_13 E (S.more hY ht) (bx_later HA hY) hb)
theorem h7_11 (E : Env7 ta tb tc da db dc ds w N R B v3 Q) {d53 d56 d60 d65 d67 d71 d72 d75 d81 d82 d85 : ND} {X : World} {bA : Nat} (S : Sh7 ta tb tc da db dc ds w N R B (fun b => b ≠ bA) [((t2 4 ta tb), d85), ((t2 4 ta (t2 5 tb tc)), d82), ((t2 5 tb tc), d81), ((t1 6 (t1 6 ta)), d75), ((t2 4 ta (t2 4 tb tc)), d72), ((t2 4 tb tc), d71), ((t2 4 (t2 4 ta tb) tc), d67), ((t2 4 ta tb), d65), ((t2 5 ta ta), d60), ((t2 5 tb ta), d56), ((t2 5 ta tb), d53)] X) (HA : X.heap[bA]? = some (.cells z66 66)) (hb : B ≤ bA) :
   G7 da db dc v3 w N R us Q B 8 (47 :: 34 :: 31 :: 30 :: 26 :: 24 :: 22 :: 21 :: 20 :: 16 :: 14 :: 11 :: 9 :: 6 :: 5 :: 2 :: kf0) ((11, .pointer (some ⟨bA, 0, none⟩)) :: (85, d85.v) :: (82, d82.v) :: (81, d81.v) :: (77, .agg (d75.cs ++ ds.cs).toArray) :: (75, d75.v) :: (73, .agg (d67.cs ++ d72.cs).toArray) :: (72, d72.v) :: (71, d71.v) :: (67, d67.v) :: (65, d65.v) :: (62, .agg (d60.cs ++ da.cs).toArray) :: (60, d60.v) :: (57, .agg (d53.cs ++ d56.cs).toArray) :: (56, d56.v) :: (53, d53.v) :: lf0 da db dc ds) X := by
 refine rcl 37 88 44 #[.int .i64 4, da.v, dc.v] rfl rfl (two_ok _ 4 da dc _ _ X S.h.a S.h.c S.h.o) ?_
 rintro e Y ⟨⟨d88, rfl, ht⟩, hY⟩
 refine ⟨_, rfl, hY.mono S.v, ?_⟩
 exact cong7 (by kernel_rfl) (by kernel_rfl) (h7_12 E (S.more hY ht) (bx_later HA hY) hb)
theorem h7_10 (E : Env7 ta tb tc da db dc ds w N R B v3 Q) {d53 d56 d60 d65 d67 d71 d72 d75 d81 d82 : ND} {X : World} {bA : Nat} (S : Sh7 ta tb tc da db dc ds w N R B (fun b => b ≠ bA) [((t2 4 ta (t2 5 tb tc)), d82), ((t2 5 tb tc), d81), ((t1 6 (t1 6 ta)), d75), ((t2 4 ta (t2 4 tb tc)), d72), ((t2 4 tb tc), d71), ((t2 4 (t2 4 ta tb) tc), d67), ((t2 4 ta tb), d65), ((t2 5 ta ta), d60), ((t2 5 tb ta), d56), ((t2 5 ta tb), d53)] X) (HA : X.heap[bA]? = some (.cells z66 66)) (hb : B ≤ bA) :
   G7 da db dc v3 w N R us Q B 9 (47 :: 31 :: 30 :: 26 :: 24 :: 22 :: 21 :: 20 :: 16 :: 14 :: 11 :: 9 :: 6 :: 5 :: 2 :: kf0) ((11, .pointer (some ⟨bA, 0, none⟩)) :: (82, d82.v) :: (81, d81.v) :: (77, .agg (d75.cs ++ ds.cs).toArray) :: (75, d75.v) :: (73, .agg (d67.cs ++ d72.cs).toArray) :: (72, d72.v) :: (71, d71.v) :: (67, d67.v) :: (65, d65.v) :: (62, .agg (d60.cs ++ da.cs).toArray) :: (60, d60.v) :: (57, .agg (d53.cs ++ d56.cs).toArray) :: (56, d56.v) :: (53, d53.v) :: lf0 da db dc ds) X := by
 refine rcl 34 85 44 #[.int .i64 4, da.v, db.v] rfl rfl (two_ok _ 4 da db _ _ X S.h.a S.h.b S.h.o) ?_
 rintro e Y ⟨⟨d85, rfl, ht⟩, hY⟩
 refine ⟨_, rfl, hY.mono S.v, ?_⟩
 exact cong7 (by kernel_rfl) (by kernel_rfl) (h7_11 E (S.more hY ht) (bx_later HA hY) hb)
theorem h7_9 (E : Env7 ta tb tc da db dc ds w N R B v3 Q) {d53 d56 d60 d65 d67 d71 d72 d75 d81 : ND} {X : World} {bA : Nat} (S : Sh7 ta tb tc da db dc ds w N R B (fun b => b ≠ bA) [((t2 5 tb tc), d81), ((t1 6 (t1 6 ta)), d75), ((t2 4 ta (t2 4 tb tc)), d72), ((t2 4 tb tc), d71), ((t2 4 (t2 4 ta tb) tc), d67), ((t2 4 ta tb), d65), ((t2 5 ta ta), d60), ((t2 5 tb ta), d56), ((t2 5 ta tb), d53)] X) (HA : X.heap[bA]? = some (.cells z66 66)) (hb : B ≤ bA) :
   G7 da db dc v3 w N R us Q B 10 (47 :: 30 :: 26 :: 24 :: 22 :: 21 :: 20 :: 16 :: 14 :: 11 :: 9 :: 6 :: 5 :: 2 :: kf0) ((11, .pointer (some ⟨bA, 0, none⟩)) :: (81, d81.v) :: (77, .agg (d75.cs ++ ds.cs).toArray) :: (75, d75.v) :: (73, .agg (d67.cs ++ d72.cs).toArray) :: (72, d72.v) :: (71, d71.v) :: (67, d67.v) :: (65, d65.v) :: (62, .agg (d60.cs ++ da.cs).toArray) :: (60, d60.v) :: (57, .agg (d53.cs ++ d56.cs).toArray) :: (56, d56.v) :: (53, d53.v) :: lf0 da db dc ds) X := by
 refine rcl 31 82 44 #[.int .i64 4, da.v, d81.v] rfl rfl (two_ok _ 4 da d81 _ _ X S.h.a (S.h.m ((t2 5 tb tc), d81) (by simp)) S.h.o) ?_
 rintro e Y ⟨⟨d82, rfl, ht⟩, hY⟩
 refine ⟨_, rfl, hY.mono S.v, ?_⟩
 exact cong7 (by kernel_rfl) (by kernel_rfl) (h7_10 E (S.more hY ht) (bx_later HA hY) hb)
theorem h7_8 (E : Env7 ta tb tc da db dc ds w N R B v3 Q) {d53 d56 d60 d65 d67 d71 d72 d75 : ND} {X : World} {bA : Nat} (S : Sh7 ta tb tc da db dc ds w N R B (fun b => b ≠ bA) [((t1 6 (t1 6 ta)), d75), ((t2 4 ta (t2 4 tb tc)), d72), ((t2 4 tb tc), d71), ((t2 4 (t2 4 ta tb) tc), d67), ((t2 4 ta tb), d65), ((t2 5 ta ta), d60), ((t2 5 tb ta), d56), ((t2 5 ta tb), d53)] X) (HA : X.heap[bA]? = some (.cells z66 66)) (hb : B ≤ bA) :
   G7 da db dc v3 w N R us Q B 11 (47 :: 26 :: 24 :: 22 :: 21 :: 20 :: 16 :: 14 :: 11 :: 9 :: 6 :: 5 :: 2 :: kf0) ((11, .pointer (some ⟨bA, 0, none⟩)) :: (77, .agg (d75.cs ++ ds.cs).toArray) :: (75, d75.v) :: (73, .agg (d67.cs ++ d72.cs).toArray) :: (72, d72.v) :: (71, d71.v) :: (67, d67.v) :: (65, d65.v) :: (62, .agg (d60.cs ++ da.cs).toArray) :: (60, d60.v) :: (57, .agg (d53.cs ++ d56.cs).toArray) :: (56, d56.v) :: (53, d53.v) :: lf0 da db dc ds) X := by
 refine rcl 30 81 44 #[.int .i64 5, db.v, dc.v] rfl rfl (two_ok _ 5 db dc _ _ X S.h.b S.h.c S.h.o) ?_
 rintro e Y ⟨⟨d81, rfl, ht⟩, hY⟩
 refine ⟨_, rfl, hY.mono S.v, ?_⟩
 exact cong7 (by kernel_rfl) (by kernel_rfl) (h7_9 E (S.more hY ht) (bx_later HA hY) hb)
theorem h7_7 (E : Env7 ta tb tc da db dc ds w N R B v3 Q) {d53 d56 d60 d65 d67 d71 d72 : ND} {X : World} {bA : Nat} (S : Sh7 ta tb tc da db dc ds w N R B (fun b => b ≠ bA) [((t2 4 ta (t2 4 tb tc)), d72), ((t2 4 tb tc), d71), ((t2 4 (t2 4 ta tb) tc), d67), ((t2 4 ta tb), d65), ((t2 5 ta ta), d60), ((t2 5 tb ta), d56), ((t2 5 ta tb), d53)] X) (HA : X.heap[bA]? = some (.cells z66 66)) (hb : B ≤ bA) :
   G7 da db dc v3 w N R us Q B 13 (47 :: 22 :: 21 :: 20 :: 16 :: 14 :: 11 :: 9 :: 6 :: 5 :: 2 :: kf0) ((11, .pointer (some ⟨bA, 0, none⟩)) :: (73, .agg (d67.cs ++ d72.cs).toArray) :: (72, d72.v) :: (71, d71.v) :: (67, d67.v) :: (65, d65.v) :: (62, .agg (d60.cs ++ da.cs).toArray) :: (60, d60.v) :: (57, .agg (d53.cs ++ d56.cs).toArray) :: (56, d56.v) :: (53, d53.v) :: lf0 da db dc ds) X := by
 refine rcl 24 75 43 #[.int .i64 6, ds.v] rfl rfl (one_ok _ 6 ds _ X S.h.s S.h.o) ?_
 rintro e Y ⟨⟨d75, rfl, ht⟩, hY⟩
 refine ⟨_, rfl, hY.mono S.v, ?_⟩
 refine rtk 26 77 (.agg (d75.cs ++ ds.cs).toArray) rfl (fun _ _ => by kernel_rfl) ?_ E.q
 exact cong7 (by kernel_rfl) (by kernel_rfl) (h7_8 E (S.more hY ht) (bx_later HA hY) hb)
theorem h7_6 (E : Env7 ta tb tc da db dc ds w N R B v3 Q) {d53 d56 d60 d65 d67 d71 : ND} {X : World} {bA : Nat} (S : Sh7 ta tb tc da db dc ds w N R B (fun b => b ≠ bA) [((t2 4 tb tc), d71), ((t2 4 (t2 4 ta tb) tc), d67), ((t2 4 ta tb), d65), ((t2 5 ta ta), d60), ((t2 5 tb ta), d56), ((t2 5 ta tb), d53)] X) (HA : X.heap[bA]? = some (.cells z66 66)) (hb : B ≤ bA) :
   G7 da db dc v3 w N R us Q B 15 (47 :: 20 :: 16 :: 14 :: 11 :: 9 :: 6 :: 5 :: 2 :: kf0) ((11, .pointer (some ⟨bA, 0, none⟩)) :: (71, d71.v) :: (67, d67.v) :: (65, d65.v) :: (62, .agg (d60.cs ++ da.cs).toArray) :: (60, d60.v) :: (57, .agg (d53.cs ++ d56.cs).toArray) :: (56, d56.v) :: (53, d53.v) :: lf0 da db dc ds) X := by
 refine rcl 21 72 44 #[.int .i64 4, da.v, d71.v] rfl rfl (two_ok _ 4 da d71 _ _ X S.h.a (S.h.m ((t2 4 tb tc), d71) (by simp)) S.h.o) ?_
 rintro e Y ⟨⟨d72, rfl, ht⟩, hY⟩
 refine ⟨_, rfl, hY.mono S.v, ?_⟩
 refine rtk 22 73 (.agg (d67.cs ++ d72.cs).toArray) rfl (fun _ _ => by kernel_rfl) ?_ E.q
 exact cong7 (by kernel_rfl) (by kernel_rfl) (h7_7 E (S.more hY ht) (bx_later HA hY) hb)
theorem h7_5 (E : Env7 ta tb tc da db dc ds w N R B v3 Q) {d53 d56 d60 d65 d67 : ND} {X : World} {bA : Nat} (S : Sh7 ta tb tc da db dc ds w N R B (fun b => b ≠ bA) [((t2 4 (t2 4 ta tb) tc), d67), ((t2 4 ta tb), d65), ((t2 5 ta ta), d60), ((t2 5 tb ta), d56), ((t2 5 ta tb), d53)] X) (HA : X.heap[bA]? = some (.cells z66 66)) (hb : B ≤ bA) :
   G7 da db dc v3 w N R us Q B 16 (47 :: 16 :: 14 :: 11 :: 9 :: 6 :: 5 :: 2 :: kf0) ((11, .pointer (some ⟨bA, 0, none⟩)) :: (67, d67.v) :: (65, d65.v) :: (62, .agg (d60.cs ++ da.cs).toArray) :: (60, d60.v) :: (57, .agg (d53.cs ++ d56.cs).toArray) :: (56, d56.v) :: (53, d53.v) :: lf0 da db dc ds) X := by
 refine rcl 20 71 44 #[.int .i64 4, db.v, dc.v] rfl rfl (two_ok _ 4 db dc _ _ X S.h.b S.h.c S.h.o) ?_
 rintro e Y ⟨⟨d71, rfl, ht⟩, hY⟩
 refine ⟨_, rfl, hY.mono S.v, ?_⟩
 exact cong7 (by kernel_rfl) (by kernel_rfl) (h7_6 E (S.more hY ht) (bx_later HA hY) hb)
theorem h7_4 (E : Env7 ta tb tc da db dc ds w N R B v3 Q) {d53 d56 d60 d65 : ND} {X : World} {bA : Nat} (S : Sh7 ta tb tc da db dc ds w N R B (fun b => b ≠ bA) [((t2 4 ta tb), d65), ((t2 5 ta ta), d60), ((t2 5 tb ta), d56), ((t2 5 ta tb), d53)] X) (HA : X.heap[bA]? = some (.cells z66 66)) (hb : B ≤ bA) :
   G7 da db dc v3 w N R us Q B 17 (47 :: 14 :: 11 :: 9 :: 6 :: 5 :: 2 :: kf0) ((11, .pointer (some ⟨bA, 0, none⟩)) :: (65, d65.v) :: (62, .agg (d60.cs ++ da.cs).toArray) :: (60, d60.v) :: (57, .agg (d53.cs ++ d56.cs).toArray) :: (56, d56.v) :: (53, d53.v) :: lf0 da db dc ds) X := by
 refine rcl 16 67 44 #[.int .i64 4, d65.v, dc.v] rfl rfl (two_ok _ 4 d65 dc _ _ X (S.h.m ((t2 4 ta tb), d65) (by simp)) S.h.c S.h.o) ?_
 rintro e Y ⟨⟨d67, rfl, ht⟩, hY⟩
 refine ⟨_, rfl, hY.mono S.v, ?_⟩
 exact cong7 (by kernel_rfl) (by kernel_rfl) (h7_5 E (S.more hY ht) (bx_later HA hY) hb)
theorem h7_3 (E : Env7 ta tb tc da db dc ds w N R B v3 Q) {d53 d56 d60 : ND} {X : World} {bA : Nat} (S : Sh7 ta tb tc da db dc ds w N R B (fun b => b ≠ bA) [((t2 5 ta ta), d60), ((t2 5 tb ta), d56), ((t2 5 ta tb), d53)] X) (HA : X.heap[bA]? = some (.cells z66 66)) (hb : B ≤ bA) :
   G7 da db dc v3 w N R us Q B 18 (47 :: 11 :: 9 :: 6 :: 5 :: 2 :: kf0) ((11, .pointer (some ⟨bA, 0, none⟩)) :: (62, .agg (d60.cs ++ da.cs).toArray) :: (60, d60.v) :: (57, .agg (d53.cs ++ d56.cs).toArray) :: (56, d56.v) :: (53, d53.v) :: lf0 da db dc ds) X := by
 refine rcl 14 65 44 #[.int .i64 4, da.v, db.v] rfl rfl (two_ok _ 4 da db _ _ X S.h.a S.h.b S.h.o) ?_
 rintro e Y ⟨⟨d65, rfl, ht⟩, hY⟩
 refine ⟨_, rfl, hY.mono S.v, ?_⟩
 exact cong7 (by kernel_rfl) (by kernel_rfl) (h7_4 E (S.more hY ht) (bx_later HA hY) hb)
theorem h7_2 (E : Env7 ta tb tc da db dc ds w N R B v3 Q) {d53 d56 : ND} {X : World} {bA : Nat} (S : Sh7 ta tb tc da db dc ds w N R B (fun b => b ≠ bA) [((t2 5 tb ta), d56), ((t2 5 ta tb), d53)] X) (HA : X.heap[bA]? = some (.cells z66 66)) (hb : B ≤ bA) :
   G7 da db dc v3 w N R us Q B 20 (47 :: 6 :: 5 :: 2 :: kf0) ((11, .pointer (some ⟨bA, 0, none⟩)) :: (57, .agg (d53.cs ++ d56.cs).toArray) :: (56, d56.v) :: (53, d53.v) :: lf0 da db dc ds) X := by
 refine rcl 9 60 44 #[.int .i64 5, da.v, da.v] rfl rfl (two_ok _ 5 da da _ _ X S.h.a S.h.a S.h.o) ?_
 rintro e Y ⟨⟨d60, rfl, ht⟩, hY⟩
 refine ⟨_, rfl, hY.mono S.v, ?_⟩
 refine rtk 11 62 (.agg (d60.cs ++ da.cs).toArray) rfl (fun _ _ => by kernel_rfl) ?_ E.q
 exact cong7 (by kernel_rfl) (by kernel_rfl) (h7_3 E (S.more hY ht) (bx_later HA hY) hb)
theorem h7_1 (E : Env7 ta tb tc da db dc ds w N R B v3 Q) {d53 : ND} {X : World} {bA : Nat} (S : Sh7 ta tb tc da db dc ds w N R B (fun b => b ≠ bA) [((t2 5 ta tb), d53)] X) (HA : X.heap[bA]? = some (.cells z66 66)) (hb : B ≤ bA) :
   G7 da db dc v3 w N R us Q B 22 (47 :: 2 :: kf0) ((11, .pointer (some ⟨bA, 0, none⟩)) :: (53, d53.v) :: lf0 da db dc ds) X := by
 refine rcl 5 56 44 #[.int .i64 5, db.v, da.v] rfl rfl (two_ok _ 5 db da _ _ X S.h.b S.h.a S.h.o) ?_
 rintro e Y ⟨⟨d56, rfl, ht⟩, hY⟩
 refine ⟨_, rfl, hY.mono S.v, ?_⟩
 refine rtk 6 57 (.agg (d53.cs ++ d56.cs).toArray) rfl (fun _ _ => by kernel_rfl) ?_ E.q
 exact cong7 (by kernel_rfl) (by kernel_rfl) (h7_2 E (S.more hY ht) (bx_later HA hY) hb)
theorem h7_0 (E : Env7 ta tb tc da db dc ds w N R B v3 Q) {X : World} {bA : Nat} (S : Sh7 ta tb tc da db dc ds w N R B (fun b => b ≠ bA) [] X) (HA : X.heap[bA]? = some (.cells z66 66)) (hb : B ≤ bA) :
   G7 da db dc v3 w N R us Q B 23 (47 :: kf0) ((11, .pointer (some ⟨bA, 0, none⟩)) :: lf0 da db dc ds) X := by
 refine rcl 2 53 44 #[.int .i64 5, da.v, db.v] rfl rfl (two_ok _ 5 da db _ _ X S.h.a S.h.b S.h.o) ?_
 rintro e Y ⟨⟨d53, rfl, ht⟩, hY⟩
 refine ⟨_, rfl, hY.mono S.v, ?_⟩
 exact cong7 (by kernel_rfl) (by kernel_rfl) (h7_1 E (S.more hY ht) (bx_later HA hY) hb)
theorem f7_15 (E : Env7 ta tb tc da db dc ds w N R B v3 Q) {d53 d56 d60 d65 d67 d71 d72 d75 d81 d82 d85 d88 d89 d92 d95 : ND} {X : World} (S : Sh7 ta tb tc da db dc ds w N R B (fun _ => True) [((t2 5 t0 ta), d95), ((t1 8 ta), d92), ((t2 5 (t2 4 ta tb) (t2 4 ta tc)), d89), ((t2 4 ta tc), d88), ((t2 4 ta tb), d85), ((t2 4 ta (t2 5 tb tc)), d82), ((t2 5 tb tc), d81), ((t1 6 (t1 6 ta)), d75), ((t2 4 ta (t2 4 tb tc)), d72), ((t2 4 tb tc), d71), ((t2 4 (t2 4 ta tb) tc), d67), ((t2 4 ta tb), d65), ((t2 5 ta ta), d60), ((t2 5 tb ta), d56), ((t2 5 ta tb), d53)] X) :
   G7 da db dc v3 w N R us Q B 2 (46 :: 45 :: 44 :: 41 :: 39 :: 38 :: 37 :: 34 :: 31 :: 30 :: 26 :: 24 :: 22 :: 21 :: 20 :: 16 :: 14 :: 11 :: 9 :: 6 :: 5 :: 2 :: kf0) ((97, .agg ([d53, d56, d60, da, d67, d72, d75, ds, d82, d89, d92, d95].flatMap ND.cs).toArray) :: (96, .agg (d92.cs ++ d95.cs).toArray) :: (95, d95.v) :: (92, d92.v) :: (90, .agg (d82.cs ++ d89.cs).toArray) :: (89, d89.v) :: (88, d88.v) :: (85, d85.v) :: (82, d82.v) :: (81, d81.v) :: (77, .agg (d75.cs ++ ds.cs).toArray) :: (75, d75.v) :: (73, .agg (d67.cs ++ d72.cs).toArray) :: (72, d72.v) :: (71, d71.v) :: (67, d67.v) :: (65, d65.v) :: (62, .agg (d60.cs ++ da.cs).toArray) :: (60, d60.v) :: (57, .agg (d53.cs ++ d56.cs).toArray) :: (56, d56.v) :: (53, d53.v) :: lf0 da db dc ds) X := by
 exact Reg.only 47 _ 11 rfl (by kernel_rfl) rfl (by kernel_rfl) (by kernel_rfl) ⟨_, _, B, run_alloc66 rfl, Nat.le_refl _, (al1 X (.cells z66 66)).mono S.v, h7_15 E (S.alloc _) (heap_alloc_new X _) S.v⟩
theorem f7_14 (E : Env7 ta tb tc da db dc ds w N R B v3 Q) {d53 d56 d60 d65 d67 d71 d72 d75 d81 d82 d85 d88 d89 d92 : ND} {X : World} (S : Sh7 ta tb tc da db dc ds w N R B (fun _ => True) [((t1 8 ta), d92), ((t2 5 (t2 4 ta tb) (t2 4 ta tc)), d89), ((t2 4 ta tc), d88), ((t2 4 ta tb), d85), ((t2 4 ta (t2 5 tb tc)), d82), ((t2 5 tb tc), d81), ((t1 6 (t1 6 ta)), d75), ((t2 4 ta (t2 4 tb tc)), d72), ((t2 4 tb tc), d71), ((t2 4 (t2 4 ta tb) tc), d67), ((t2 4 ta tb), d65), ((t2 5 ta ta), d60), ((t2 5 tb ta), d56), ((t2 5 ta tb), d53)] X) :
   G7 da db dc v3 w N R us Q B 5 (41 :: 39 :: 38 :: 37 :: 34 :: 31 :: 30 :: 26 :: 24 :: 22 :: 21 :: 20 :: 16 :: 14 :: 11 :: 9 :: 6 :: 5 :: 2 :: kf0) ((92, d92.v) :: (90, .agg (d82.cs ++ d89.cs).toArray) :: (89, d89.v) :: (88, d88.v) :: (85, d85.v) :: (82, d82.v) :: (81, d81.v) :: (77, .agg (d75.cs ++ ds.cs).toArray) :: (75, d75.v) :: (73, .agg (d67.cs ++ d72.cs).toArray) :: (72, d72.v) :: (71, d71.v) :: (67, d67.v) :: (65, d65.v) :: (62, .agg (d60.cs ++ da.cs).toArray) :: (60, d60.v) :: (57, .agg (d53.cs ++ d56.cs).toArray) :: (56, d56.v) :: (53, d53.v) :: lf0 da db dc ds) X := by
 refine Reg.two 44 47 (by kernel_rfl) (rbc 44 95 44 #[.int .i64 5, d0.v, da.v] rfl rfl (two_ok _ 5 d0 da _ _ X (tr_d0 _ _) S.h.a S.h.o) ?_) (Reg.brV 47 _ 11 rfl rfl (by kernel_rfl) (by kernel_rfl) ⟨_, _, B, run_alloc66 rfl, Nat.le_refl _, (al1 X (.cells z66 66)).mono S.v, h7_14 E (S.alloc _) (heap_alloc_new X _) S.v⟩)
 rintro e Y ⟨⟨d95, rfl, ht⟩, hY⟩
 refine ⟨_, rfl, hY.mono S.v, ?_⟩
 refine rtk 45 96 (.agg (d92.cs ++ d95.cs).toArray) rfl (fun _ _ => by kernel_rfl) ?_ E.q
 refine rtk 46 97 (.agg ([d53, d56, d60, da, d67, d72, d75, ds, d82, d89, d92, d95].flatMap ND.cs).toArray) rfl (fun _ _ => by kernel_rfl) ?_ E.q
 exact f7_15 E (S.more hY ht)
theorem f7_13 (E : Env7 ta tb tc da db dc ds w N R B v3 Q) {d53 d56 d60 d65 d67 d71 d72 d75 d81 d82 d85 d88 d89 : ND} {X : World} (S : Sh7 ta tb tc da db dc ds w N R B (fun _ => True) [((t2 5 (t2 4 ta tb) (t2 4 ta tc)), d89), ((t2 4 ta tc), d88), ((t2 4 ta tb), d85), ((t2 4 ta (t2 5 tb tc)), d82), ((t2 5 tb tc), d81), ((t1 6 (t1 6 ta)), d75), ((t2 4 ta (t2 4 tb tc)), d72), ((t2 4 tb tc), d71), ((t2 4 (t2 4 ta tb) tc), d67), ((t2 4 ta tb), d65), ((t2 5 ta ta), d60), ((t2 5 tb ta), d56), ((t2 5 ta tb), d53)] X) :
   G7 da db dc v3 w N R us Q B 6 (39 :: 38 :: 37 :: 34 :: 31 :: 30 :: 26 :: 24 :: 22 :: 21 :: 20 :: 16 :: 14 :: 11 :: 9 :: 6 :: 5 :: 2 :: kf0) ((90, .agg (d82.cs ++ d89.cs).toArray) :: (89, d89.v) :: (88, d88.v) :: (85, d85.v) :: (82, d82.v) :: (81, d81.v) :: (77, .agg (d75.cs ++ ds.cs).toArray) :: (75, d75.v) :: (73, .agg (d67.cs ++ d72.cs).toArray) :: (72, d72.v) :: (71, d71.v) :: (67, d67.v) :: (65, d65.v) :: (62, .agg (d60.cs ++ da.cs).toArray) :: (60, d60.v) :: (57, .agg (d53.cs ++ d56.cs).toArray) :: (56, d56.v) :: (53, d53.v) :: lf0 da db dc ds) X := by
 refine Reg.two 41 47 (by kernel_rfl) (rbc 41 92 43 #[.int .i64 8, da.v] rfl rfl (one_ok _ 8 da _ X S.h.a S.h.o) ?_) (Reg.brV 47 _ 11 rfl rfl (by kernel_rfl) (by kernel_rfl) ⟨_, _, B, run_alloc66 rfl, Nat.le_refl _, (al1 X (.cells z66 66)).mono S.v, h7_13 E (S.alloc _) (heap_alloc_new X _) S.v⟩)
 rintro e Y ⟨⟨d92, rfl, ht⟩, hY⟩
 refine ⟨_, rfl, hY.mono S.v, ?_⟩
 exact f7_14 E (S.more hY ht)
theorem f7_12 (E : Env7 ta tb tc da db dc ds w N R B v3 Q) {d53 d56 d60 d65 d67 d71 d72 d75 d81 d82 d85 d88 : ND} {X : World} (S : Sh7 ta tb tc da db dc ds w N R B (fun _ => True) [((t2 4 ta tc), d88), ((t2 4 ta tb), d85), ((t2 4 ta (t2 5 tb tc)), d82), ((t2 5 tb tc), d81), ((t1 6 (t1 6 ta)), d75), ((t2 4 ta (t2 4 tb tc)), d72), ((t2 4 tb tc), d71), ((t2 4 (t2 4 ta tb) tc), d67), ((t2 4 ta tb), d65), ((t2 5 ta ta), d60), ((t2 5 tb ta), d56), ((t2 5 ta tb), d53)] X) :
   G7 da db dc v3 w N R us Q B 8 (37 :: 34 :: 31 :: 30 :: 26 :: 24 :: 22 :: 21 :: 20 :: 16 :: 14 :: 11 :: 9 :: 6 :: 5 :: 2 :: kf0) ((88, d88.v) :: (85, d85.v) :: (82, d82.v) :: (81, d81.v) :: (77, .agg (d75.cs ++ ds.cs).toArray) :: (75, d75.v) :: (73, .agg (d67.cs ++ d72.cs).toArray) :: (72, d72.v) :: (71, d71.v) :: (67, d67.v) :: (65, d65.v) :: (62, .agg (d60.cs ++ da.cs).toArray) :: (60, d60.v) :: (57, .agg (d53.cs ++ d56.cs).toArray) :: (56, d56.v) :: (53, d53.v) :: lf0 da db dc ds) X := by
 refine Reg.two 38 47 (by kernel_rfl) (rbc 38 89 44 #[.int .i64 5, d85.v, d88.v] rfl rfl (two_ok _ 5 d85 d88 _ _ X (S.h.m ((t2 4 ta tb), d85) (by simp)) (S.h.m ((t2 4 ta tc), d88) (by simp)) S.h.o) ?_) (Reg.brV 47 _ 11 rfl rfl (by kernel_rfl) (by kernel_rfl) ⟨_, _, B, run_alloc66 rfl, Nat.le_refl _, (al1 X (.cells z66 66)).mono S.v, h7_12 E (S.alloc _) (heap_alloc_new X _) S.v⟩)
 rintro e Y ⟨⟨d89, rfl, ht⟩, hY⟩
 refine ⟨_, rfl, hY.mono S.v, ?_⟩
 refine rtk 39 90 (.agg (d82.cs ++ d89.cs).toArray) rfl (fun _ _ => by kernel_rfl) ?_ E.q
 exact f7_13 E (S.more hY ht)
theorem f7_11 (E : Env7 ta tb tc da db dc ds w N R B v3 Q) {d53 d56 d60 d65 d67 d71 d72 d75 d81 d82 d85 : ND} {X : World} (S : Sh7 ta tb tc da db dc ds w N R B (fun _ => True) [((t2 4 ta tb), d85), ((t2 4 ta (t2 5 tb tc)), d82), ((t2 5 tb tc), d81), ((t1 6 (t1 6 ta)), d75), ((t2 4 ta (t2 4 tb tc)), d72), ((t2 4 tb tc), d71), ((t2 4 (t2 4 ta tb) tc), d67), ((t2 4 ta tb), d65), ((t2 5 ta ta), d60), ((t2 5 tb ta), d56), ((t2 5 ta tb), d53)] X) :
   G7 da db dc v3 w N R us Q B 9 (34 :: 31 :: 30 :: 26 :: 24 :: 22 :: 21 :: 20 :: 16 :: 14 :: 11 :: 9 :: 6 :: 5 :: 2 :: kf0) ((85, d85.v) :: (82, d82.v) :: (81, d81.v) :: (77, .agg (d75.cs ++ ds.cs).toArray) :: (75, d75.v) :: (73, .agg (d67.cs ++ d72.cs).toArray) :: (72, d72.v) :: (71, d71.v) :: (67, d67.v) :: (65, d65.v) :: (62, .agg (d60.cs ++ da.cs).toArray) :: (60, d60.v) :: (57, .agg (d53.cs ++ d56.cs).toArray) :: (56, d56.v) :: (53, d53.v) :: lf0 da db dc ds) X := by
 refine Reg.two 37 47 (by kernel_rfl) (rbc 37 88 44 #[.int .i64 4, da.v, dc.v] rfl rfl (two_ok _ 4 da dc _ _ X S.h.a S.h.c S.h.o) ?_) (Reg.brV 47 _ 11 rfl rfl (by kernel_rfl) (by kernel_rfl) ⟨_, _, B, run_alloc66 rfl, Nat.le_refl _, (al1 X (.cells z66 66)).mono S.v, h7_11 E (S.alloc _) (heap_alloc_new X _) S.v⟩)
 rintro e Y ⟨⟨d88, rfl, ht⟩, hY⟩
 refine ⟨_, rfl, hY.mono S.v, ?_⟩
 exact f7_12 E (S.more hY ht)
theorem f7_10 (E : Env7 ta tb tc da db dc ds w N R B v3 Q) {d53 d56 d60 d65 d67 d71 d72 d75 d81 d82 : ND} {X : World} (S : Sh7 ta tb tc da db dc ds w N R B (fun _ => True) [((t2 4 ta (t2 5 tb tc)), d82), ((t2 5 tb tc), d81), ((t1 6 (t1 6 ta)), d75), ((t2 4 ta (t2 4 tb tc)), d72), ((t2 4 tb tc), d71), ((t2 4 (t2 4 ta tb) tc), d67), ((t2 4 ta tb), d65), ((t2 5 ta ta), d60), ((t2 5 tb ta), d56), ((t2 5 ta tb), d53)] X) :
   G7 da db dc v3 w N R us Q B 10 (31 :: 30 :: 26 :: 24 :: 22 :: 21 :: 20 :: 16 :: 14 :: 11 :: 9 :: 6 :: 5 :: 2 :: kf0) ((82, d82.v) :: (81, d81.v) :: (77, .agg (d75.cs ++ ds.cs).toArray) :: (75, d75.v) :: (73, .agg (d67.cs ++ d72.cs).toArray) :: (72, d72.v) :: (71, d71.v) :: (67, d67.v) :: (65, d65.v) :: (62, .agg (d60.cs ++ da.cs).toArray) :: (60, d60.v) :: (57, .agg (d53.cs ++ d56.cs).toArray) :: (56, d56.v) :: (53, d53.v) :: lf0 da db dc ds) X := by
 refine Reg.two 34 47 (by kernel_rfl) (rbc 34 85 44 #[.int .i64 4, da.v, db.v] rfl rfl (two_ok _ 4 da db _ _ X S.h.a S.h.b S.h.o) ?_) (Reg.brV 47 _ 11 rfl rfl (by kernel_rfl) (by kernel_rfl) ⟨_, _, B, run_alloc66 rfl, Nat.le_refl _, (al1 X (.cells z66 66)).mono S.v, h7_10 E (S.alloc _) (heap_alloc_new X _) S.v⟩)
 rintro e Y ⟨⟨d85, rfl, ht⟩, hY⟩
 refine ⟨_, rfl, hY.mono S.v, ?_⟩
 exact f7_11 E (S.more hY ht)
theorem f7_9 (E : Env7 ta tb tc da db dc ds w N R B v3 Q) {d53 d56 d60 d65 d67 d71 d72 d75 d81 : ND} {X : World} (S : Sh7 ta tb tc da db dc ds w N R B (fun _ => True) [((t2 5 tb tc), d81), ((t1 6 (t1 6 ta)), d75), ((t2 4 ta (t2 4 tb tc)), d72), ((t2 4 tb tc), d71), ((t2 4 (t2 4 ta tb) tc), d67), ((t2 4 ta tb), d65), ((t2 5 ta ta), d60), ((t2 5 tb ta), d56), ((t2 5 ta tb), d53)] X) :
   G7 da db dc v3 w N R us Q B 11 (30 :: 26 :: 24 :: 22 :: 21 :: 20 :: 16 :: 14 :: 11 :: 9 :: 6 :: 5 :: 2 :: kf0) ((81, d81.v) :: (77, .agg (d75.cs ++ ds.cs).toArray) :: (75, d75.v) :: (73, .agg (d67.cs ++ d72.cs).toArray) :: (72, d72.v) :: (71, d71.v) :: (67, d67.v) :: (65, d65.v) :: (62, .agg (d60.cs ++ da.cs).toArray) :: (60, d60.v) :: (57, .agg (d53.cs ++ d56.cs).toArray) :: (56, d56.v) :: (53, d53.v) :: lf0 da db dc ds) X := by
 refine Reg.two 31 47 (by kernel_rfl) (rbc 31 82 44 #[.int .i64 4, da.v, d81.v] rfl rfl (two_ok _ 4 da d81 _ _ X S.h.a (S.h.m ((t2 5 tb tc), d81) (by simp)) S.h.o) ?_) (Reg.brV 47 _ 11 rfl rfl (by kernel_rfl) (by kernel_rfl) ⟨_, _, B, run_alloc66 rfl, Nat.le_refl _, (al1 X (.cells z66 66)).mono S.v, h7_9 E (S.alloc _) (heap_alloc_new X _) S.v⟩)
 rintro e Y ⟨⟨d82, rfl, ht⟩, hY⟩
 refine ⟨_, rfl, hY.mono S.v, ?_⟩
 exact f7_10 E (S.more hY ht)
theorem f7_8 (E : Env7 ta tb tc da db dc ds w N R B v3 Q) {d53 d56 d60 d65 d67 d71 d72 d75 : ND} {X : World} (S : Sh7 ta tb tc da db dc ds w N R B (fun _ => True) [((t1 6 (t1 6 ta)), d75), ((t2 4 ta (t2 4 tb tc)), d72), ((t2 4 tb tc), d71), ((t2 4 (t2 4 ta tb) tc), d67), ((t2 4 ta tb), d65), ((t2 5 ta ta), d60), ((t2 5 tb ta), d56), ((t2 5 ta tb), d53)] X) :
   G7 da db dc v3 w N R us Q B 12 (26 :: 24 :: 22 :: 21 :: 20 :: 16 :: 14 :: 11 :: 9 :: 6 :: 5 :: 2 :: kf0) ((77, .agg (d75.cs ++ ds.cs).toArray) :: (75, d75.v) :: (73, .agg (d67.cs ++ d72.cs).toArray) :: (72, d72.v) :: (71, d71.v) :: (67, d67.v) :: (65, d65.v) :: (62, .agg (d60.cs ++ da.cs).toArray) :: (60, d60.v) :: (57, .agg (d53.cs ++ d56.cs).toArray) :: (56, d56.v) :: (53, d53.v) :: lf0 da db dc ds) X := by
 refine Reg.two 30 47 (by kernel_rfl) (rbc 30 81 44 #[.int .i64 5, db.v, dc.v] rfl rfl (two_ok _ 5 db dc _ _ X S.h.b S.h.c S.h.o) ?_) (Reg.brV 47 _ 11 rfl rfl (by kernel_rfl) (by kernel_rfl) ⟨_, _, B, run_alloc66 rfl, Nat.le_refl _, (al1 X (.cells z66 66)).mono S.v, h7_8 E (S.alloc _) (heap_alloc_new X _) S.v⟩)
 rintro e Y ⟨⟨d81, rfl, ht⟩, hY⟩
 refine ⟨_, rfl, hY.mono S.v, ?_⟩
 exact f7_9 E (S.more hY ht)
theorem f7_7 (E : Env7 ta tb tc da db dc ds w N R B v3 Q) {d53 d56 d60 d65 d67 d71 d72 : ND} {X : World} (S : Sh7 ta tb tc da db dc ds w N R B (fun _ => True) [((t2 4 ta (t2 4 tb tc)), d72), ((t2 4 tb tc), d71), ((t2 4 (t2 4 ta tb) tc), d67), ((t2 4 ta tb), d65), ((t2 5 ta ta), d60), ((t2 5 tb ta), d56), ((t2 5 ta tb), d53)] X) :
   G7 da db dc v3 w N R us Q B 14 (22 :: 21 :: 20 :: 16 :: 14 :: 11 :: 9 :: 6 :: 5 :: 2 :: kf0) ((73, .agg (d67.cs ++ d72.cs).toArray) :: (72, d72.v) :: (71, d71.v) :: (67, d67.v) :: (65, d65.v) :: (62, .agg (d60.cs ++ da.cs).toArray) :: (60, d60.v) :: (57, .agg (d53.cs ++ d56.cs).toArray) :: (56, d56.v) :: (53, d53.v) :: lf0 da db dc ds) X := by
 refine Reg.two 24 47 (by kernel_rfl) (rbc 24 75 43 #[.int .i64 6, ds.v] rfl rfl (one_ok _ 6 ds _ X S.h.s S.h.o) ?_) (Reg.brV 47 _ 11 rfl rfl (by kernel_rfl) (by kernel_rfl) ⟨_, _, B, run_alloc66 rfl, Nat.le_refl _, (al1 X (.cells z66 66)).mono S.v, h7_7 E (S.alloc _) (heap_alloc_new X _) S.v⟩)
 rintro e Y ⟨⟨d75, rfl, ht⟩, hY⟩
 refine ⟨_, rfl, hY.mono S.v, ?_⟩
 refine rtk 26 77 (.agg (d75.cs ++ ds.cs).toArray) rfl (fun _ _ => by kernel_rfl) ?_ E.q
 exact f7_8 E (S.more hY ht)
theorem f7_6 (E : Env7 ta tb tc da db dc ds w N R B v3 Q) {d53 d56 d60 d65 d67 d71 : ND} {X : World} (S : Sh7 ta tb tc da db dc ds w N R B (fun _ => True) [((t2 4 tb tc), d71), ((t2 4 (t2 4 ta tb) tc), d67), ((t2 4 ta tb), d65), ((t2 5 ta ta), d60), ((t2 5 tb ta), d56), ((t2 5 ta tb), d53)] X) :
   G7 da db dc v3 w N R us Q B 16 (20 :: 16 :: 14 :: 11 :: 9 :: 6 :: 5 :: 2 :: kf0) ((71, d71.v) :: (67, d67.v) :: (65, d65.v) :: (62, .agg (d60.cs ++ da.cs).toArray) :: (60, d60.v) :: (57, .agg (d53.cs ++ d56.cs).toArray) :: (56, d56.v) :: (53, d53.v) :: lf0 da db dc ds) X := by
 refine Reg.two 21 47 (by kernel_rfl) (rbc 21 72 44 #[.int .i64 4, da.v, d71.v] rfl rfl (two_ok _ 4 da d71 _ _ X S.h.a (S.h.m ((t2 4 tb tc), d71) (by simp)) S.h.o) ?_) (Reg.brV 47 _ 11 rfl rfl (by kernel_rfl) (by kernel_rfl) ⟨_, _, B, run_alloc66 rfl, Nat.le_refl _, (al1 X (.cells z66 66)).mono S.v, h7_6 E (S.alloc _) (heap_alloc_new X _) S.v⟩)
 rintro e Y ⟨⟨d72, rfl, ht⟩, hY⟩
 refine ⟨_, rfl, hY.mono S.v, ?_⟩
 refine rtk 22 73 (.agg (d67.cs ++ d72.cs).toArray) rfl (fun _ _ => by kernel_rfl) ?_ E.q
 exact f7_7 E (S.more hY ht)
theorem f7_5 (E : Env7 ta tb tc da db dc ds w N R B v3 Q) {d53 d56 d60 d65 d67 : ND} {X : World} (S : Sh7 ta tb tc da db dc ds w N R B (fun _ => True) [((t2 4 (t2 4 ta tb) tc), d67), ((t2 4 ta tb), d65), ((t2 5 ta ta), d60), ((t2 5 tb ta), d56), ((t2 5 ta tb), d53)] X) :
   G7 da db dc v3 w N R us Q B 17 (16 :: 14 :: 11 :: 9 :: 6 :: 5 :: 2 :: kf0) ((67, d67.v) :: (65, d65.v) :: (62, .agg (d60.cs ++ da.cs).toArray) :: (60, d60.v) :: (57, .agg (d53.cs ++ d56.cs).toArray) :: (56, d56.v) :: (53, d53.v) :: lf0 da db dc ds) X := by
 refine Reg.two 20 47 (by kernel_rfl) (rbc 20 71 44 #[.int .i64 4, db.v, dc.v] rfl rfl (two_ok _ 4 db dc _ _ X S.h.b S.h.c S.h.o) ?_) (Reg.brV 47 _ 11 rfl rfl (by kernel_rfl) (by kernel_rfl) ⟨_, _, B, run_alloc66 rfl, Nat.le_refl _, (al1 X (.cells z66 66)).mono S.v, h7_5 E (S.alloc _) (heap_alloc_new X _) S.v⟩)
 rintro e Y ⟨⟨d71, rfl, ht⟩, hY⟩
 refine ⟨_, rfl, hY.mono S.v, ?_⟩
 exact f7_6 E (S.more hY ht)
theorem f7_4 (E : Env7 ta tb tc da db dc ds w N R B v3 Q) {d53 d56 d60 d65 : ND} {X : World} (S : Sh7 ta tb tc da db dc ds w N R B (fun _ => True) [((t2 4 ta tb), d65), ((t2 5 ta ta), d60), ((t2 5 tb ta), d56), ((t2 5 ta tb), d53)] X) :
   G7 da db dc v3 w N R us Q B 18 (14 :: 11 :: 9 :: 6 :: 5 :: 2 :: kf0) ((65, d65.v) :: (62, .agg (d60.cs ++ da.cs).toArray) :: (60, d60.v) :: (57, .agg (d53.cs ++ d56.cs).toArray) :: (56, d56.v) :: (53, d53.v) :: lf0 da db dc ds) X := by
 refine Reg.two 16 47 (by kernel_rfl) (rbc 16 67 44 #[.int .i64 4, d65.v, dc.v] rfl rfl (two_ok _ 4 d65 dc _ _ X (S.h.m ((t2 4 ta tb), d65) (by simp)) S.h.c S.h.o) ?_) (Reg.brV 47 _ 11 rfl rfl (by kernel_rfl) (by kernel_rfl) ⟨_, _, B, run_alloc66 rfl, Nat.le_refl _, (al1 X (.cells z66 66)).mono S.v, h7_4 E (S.alloc _) (heap_alloc_new X _) S.v⟩)
 rintro e Y ⟨⟨d67, rfl, ht⟩, hY⟩
 refine ⟨_, rfl, hY.mono S.v, ?_⟩
 exact f7_5 E (S.more hY ht)
theorem f7_3 (E : Env7 ta tb tc da db dc ds w N R B v3 Q) {d53 d56 d60 : ND} {X : World} (S : Sh7 ta tb tc da db dc ds w N R B (fun _ => True) [((t2 5 ta ta), d60), ((t2 5 tb ta), d56), ((t2 5 ta tb), d53)] X) :
   G7 da db dc v3 w N R us Q B 19 (11 :: 9 :: 6 :: 5 :: 2 :: kf0) ((62, .agg (d60.cs ++ da.cs).toArray) :: (60, d60.v) :: (57, .agg (d53.cs ++ d56.cs).toArray) :: (56, d56.v) :: (53, d53.v) :: lf0 da db dc ds) X := by
 refine Reg.two 14 47 (by kernel_rfl) (rbc 14 65 44 #[.int .i64 4, da.v, db.v] rfl rfl (two_ok _ 4 da db _ _ X S.h.a S.h.b S.h.o) ?_) (Reg.brV 47 _ 11 rfl rfl (by kernel_rfl) (by kernel_rfl) ⟨_, _, B, run_alloc66 rfl, Nat.le_refl _, (al1 X (.cells z66 66)).mono S.v, h7_3 E (S.alloc _) (heap_alloc_new X _) S.v⟩)
 rintro e Y ⟨⟨d65, rfl, ht⟩, hY⟩
 refine ⟨_, rfl, hY.mono S.v, ?_⟩
 exact f7_4 E (S.more hY ht)
theorem f7_2 (E : Env7 ta tb tc da db dc ds w N R B v3 Q) {d53 d56 : ND} {X : World} (S : Sh7 ta tb tc da db dc ds w N R B (fun _ => True) [((t2 5 tb ta), d56), ((t2 5 ta tb), d53)] X) :
   G7 da db dc v3 w N R us Q B 21 (6 :: 5 :: 2 :: kf0) ((57, .agg (d53.cs ++ d56.cs).toArray) :: (56, d56.v) :: (53, d53.v) :: lf0 da db dc ds) X := by
 refine Reg.two 9 47 (by kernel_rfl) (rbc 9 60 44 #[.int .i64 5, da.v, da.v] rfl rfl (two_ok _ 5 da da _ _ X S.h.a S.h.a S.h.o) ?_) (Reg.brV 47 _ 11 rfl rfl (by kernel_rfl) (by kernel_rfl) ⟨_, _, B, run_alloc66 rfl, Nat.le_refl _, (al1 X (.cells z66 66)).mono S.v, h7_2 E (S.alloc _) (heap_alloc_new X _) S.v⟩)
 rintro e Y ⟨⟨d60, rfl, ht⟩, hY⟩
 refine ⟨_, rfl, hY.mono S.v, ?_⟩
 refine rtk 11 62 (.agg (d60.cs ++ da.cs).toArray) rfl (fun _ _ => by kernel_rfl) ?_ E.q
 exact f7_3 E (S.more hY ht)
theorem f7_1 (E : Env7 ta tb tc da db dc ds w N R B v3 Q) {d53 : ND} {X : World} (S : Sh7 ta tb tc da db dc ds w N R B (fun _ => True) [((t2 5 ta tb), d53)] X) :
   G7 da db dc v3 w N R us Q B 23 (2 :: kf0) ((53, d53.v) :: lf0 da db dc ds) X := by
 refine Reg.two 5 47 (by kernel_rfl) (rbc 5 56 44 #[.int .i64 5, db.v, da.v] rfl rfl (two_ok _ 5 db da _ _ X S.h.b S.h.a S.h.o) ?_) (Reg.brV 47 _ 11 rfl rfl (by kernel_rfl) (by kernel_rfl) ⟨_, _, B, run_alloc66 rfl, Nat.le_refl _, (al1 X (.cells z66 66)).mono S.v, h7_1 E (S.alloc _) (heap_alloc_new X _) S.v⟩)
 rintro e Y ⟨⟨d56, rfl, ht⟩, hY⟩
 refine ⟨_, rfl, hY.mono S.v, ?_⟩
 refine rtk 6 57 (.agg (d53.cs ++ d56.cs).toArray) rfl (fun _ _ => by kernel_rfl) ?_ E.q
 exact f7_2 E (S.more hY ht)
theorem f7_0 (E : Env7 ta tb tc da db dc ds w N R B v3 Q) {X : World} (S : Sh7 ta tb tc da db dc ds w N R B (fun _ => True) [] X) :
   G7 da db dc v3 w N R us Q B 24 (kf0) (lf0 da db dc ds) X := by
 refine Reg.two 2 47 (by kernel_rfl) (rbc 2 53 44 #[.int .i64 5, da.v, db.v] rfl rfl (two_ok _ 5 da db _ _ X S.h.a S.h.b S.h.o) ?_) (Reg.brV 47 _ 11 rfl rfl (by kernel_rfl) (by kernel_rfl) ⟨_, _, B, run_alloc66 rfl, Nat.le_refl _, (al1 X (.cells z66 66)).mono S.v, h7_0 E (S.alloc _) (heap_alloc_new X _) S.v⟩)
 rintro e Y ⟨⟨d53, rfl, ht⟩, hY⟩
 refine ⟨_, rfl, hY.mono S.v, ?_⟩
 exact f7_1 E (S.more hY ht)
set_option maxRecDepth 100000 in
set_option maxHeartbeats 1000000 in
theorem reg7 (E : Env7 ta tb tc da db dc ds w N R B v3 Q) (V : World) (S : Sh7 ta tb tc da db dc ds w N R B (fun _ => True) [] V) (hB : B = V.heap.size) : (Code.region 7 ops7 true).wp Tryz.prog Q (fr7 da db dc v3 w.heap.size N R us) V := by
 subst hB
 refine Reg.start (B := V.heap.size) (by kernel_rfl) ?_
 have l4 := fun (wx : World) (hb : Below V.heap.size V.drew wx) => (hb.block _ (Array.getElem?_eq_some_iff.1 S.c.s.ba).1).trans S.c.s.ba
 have l5 := fun (wx : World) (hb : Below V.heap.size V.drew wx) => (hb.block _ (Array.getElem?_eq_some_iff.1 S.c.s.bb).1).trans S.c.s.bb
 have l6 := fun (wx : World) (hb : Below V.heap.size V.drew wx) => (hb.block _ (Array.getElem?_eq_some_iff.1 S.c.s.bc).1).trans S.c.s.bc
 have l10 := fun (wx : World) (hb : Below V.heap.size V.drew wx) => (hb.block _ (Array.getElem?_eq_some_iff.1 S.c.r).1).trans S.c.r
 have l9 := fun (wx : World) (hb : Below V.heap.size V.drew wx) => (hb.block _ (Array.getElem?_eq_some_iff.1 S.c.n).1).trans S.c.n
 refine rtk 0 51 (da.v) rfl (fun wx hb => ld_bx rfl (by kernel_rfl) (l4 wx hb)) ?_ E.q
 refine rtk 1 52 (db.v) rfl (fun wx hb => ld_bx rfl (by kernel_rfl) (l5 wx hb)) ?_ E.q
 refine rtk 3 54 (db.v) rfl (fun wx hb => ld_bx rfl (by kernel_rfl) (l5 wx hb)) ?_ E.q
 refine rtk 4 55 (da.v) rfl (fun wx hb => ld_bx rfl (by kernel_rfl) (l4 wx hb)) ?_ E.q
 refine rtk 7 58 (da.v) rfl (fun wx hb => ld_bx rfl (by kernel_rfl) (l4 wx hb)) ?_ E.q
 refine rtk 8 59 (da.v) rfl (fun wx hb => ld_bx rfl (by kernel_rfl) (l4 wx hb)) ?_ E.q
 refine rtk 10 61 (da.v) rfl (fun wx hb => ld_bx rfl (by kernel_rfl) (l4 wx hb)) ?_ E.q
 refine rtk 12 63 (da.v) rfl (fun wx hb => ld_bx rfl (by kernel_rfl) (l4 wx hb)) ?_ E.q
 refine rtk 13 64 (db.v) rfl (fun wx hb => ld_bx rfl (by kernel_rfl) (l5 wx hb)) ?_ E.q
 refine rtk 15 66 (dc.v) rfl (fun wx hb => ld_bx rfl (by kernel_rfl) (l6 wx hb)) ?_ E.q
 refine rtk 17 68 (da.v) rfl (fun wx hb => ld_bx rfl (by kernel_rfl) (l4 wx hb)) ?_ E.q
 refine rtk 18 69 (db.v) rfl (fun wx hb => ld_bx rfl (by kernel_rfl) (l5 wx hb)) ?_ E.q
 refine rtk 19 70 (dc.v) rfl (fun wx hb => ld_bx rfl (by kernel_rfl) (l6 wx hb)) ?_ E.q
 refine rtk 23 74 (ds.v) rfl (fun wx hb => ld_bx rfl (by kernel_rfl) (l10 wx hb)) ?_ E.q
 refine rtk 25 76 (ds.v) rfl (fun wx hb => ld_bx rfl (by kernel_rfl) (l10 wx hb)) ?_ E.q
 refine rtk 27 78 (da.v) rfl (fun wx hb => ld_bx rfl (by kernel_rfl) (l4 wx hb)) ?_ E.q
 refine rtk 28 79 (db.v) rfl (fun wx hb => ld_bx rfl (by kernel_rfl) (l5 wx hb)) ?_ E.q
 refine rtk 29 80 (dc.v) rfl (fun wx hb => ld_bx rfl (by kernel_rfl) (l6 wx hb)) ?_ E.q
 refine rtk 32 83 (da.v) rfl (fun wx hb => ld_bx rfl (by kernel_rfl) (l4 wx hb)) ?_ E.q
 refine rtk 33 84 (db.v) rfl (fun wx hb => ld_bx rfl (by kernel_rfl) (l5 wx hb)) ?_ E.q
 refine rtk 35 86 (da.v) rfl (fun wx hb => ld_bx rfl (by kernel_rfl) (l4 wx hb)) ?_ E.q
 refine rtk 36 87 (dc.v) rfl (fun wx hb => ld_bx rfl (by kernel_rfl) (l6 wx hb)) ?_ E.q
 refine rtk 40 91 (da.v) rfl (fun wx hb => ld_bx rfl (by kernel_rfl) (l4 wx hb)) ?_ E.q
 refine rtk 43 94 (da.v) rfl (fun wx hb => ld_bx rfl (by kernel_rfl) (l4 wx hb)) ?_ E.q
 refine rtk 42 93 (d0.v) rfl (fun wx hb => ld_bx (d := d0) rfl (by kernel_rfl) (l9 wx hb)) ?_ E.q
 exact f7_0 E ⟨S.c.nx (Below.refl _ _).drew, S.h.nx (Below.refl _ _).drew, Nat.le_refl _⟩
end
theorem reg7A {ta tb tc : T} {da db dc ds : ND} {w : World} {N R B : Nat} {v3 : Value} {Q : Exit → Act → World → Prop} {A : Act} (E : Env7 ta tb tc da db dc ds w N R B v3 Q) (V : World) (S : Sh7 ta tb tc da db dc ds w N R B (fun _ => True) [] V) (hB : B = V.heap.size) (hA : A = fr7 da db dc v3 w.heap.size N R (fun k => A.tmps.getD k undef)) : (Code.region 7 ops7 true).wp Tryz.prog Q A V := by
 have h := reg7 (us := fun k => A.tmps.getD k undef) E V S hB
 rw [← hA] at h
 exact h
end Go.Proofs.YteaaijhppmkfeaaGreatDoor
