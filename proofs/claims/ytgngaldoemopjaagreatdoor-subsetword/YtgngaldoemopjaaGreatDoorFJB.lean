/- Joined: JB. -/
import Derived.OrdersHeld
import Derived.Below
import Derived.KernelRfl
import Derived.BigCall
import Derived.Deep.MidRow
import Derived.WalkKit
import Derived.WalkSpells
import Derived.WalkLawsBesides
import Derived.BigQuiet
import Derived.Test.YtgngaldoemopjaaGreatDoorProg
import Derived.RangeFuncNested
import Derived.RangeFuncBound
import Derived.RangeFuncCalls
import Derived.RangeFuncLeaves
import Derived.RangeFuncBox
import Derived.Shelf.Abstract
import Derived.OwnWalkIn
import Derived.TacticsInMore
import Derived.LoopNIn
import Derived.LoopIn
import Derived.Maps.AppendAt
import Derived.Laws.AppendOwnNone
import Derived.Sort.QuietIn
import Derived.Maps.OwnIn
import Derived.Sort.Row
namespace Go.Proofs.YtgngaldoemopjaaGreatDoor.U
namespace S
abbrev R := Int × Int
def good (r : R) : Bool := decide (0 ≤ r.1) && (decide (r.1 ≤ r.2) && decide (r.2 ≤ 1114111))
theorem good_iff (r : R) : good r = true ↔ 0 ≤ r.1 ∧ r.1 ≤ r.2 ∧ r.2 ≤ 1114111 := by simp [good]
def has (l : List R) (p : Int) : Prop := ∃ r ∈ l, r.1 ≤ p ∧ p ≤ r.2
def goods (l : List R) : List R := l.filter good
def hs (l : List R) (p : Int) : Prop := has (goods l) p
theorem has_nil (p : Int) : ¬ has [] p := by rintro ⟨r, h, _⟩; simp at h
theorem has_cons (r : R) (l : List R) (p : Int) : has (r :: l) p ↔ (r.1 ≤ p ∧ p ≤ r.2) ∨ has l p := by
 constructor
 · rintro ⟨x, hx, h⟩
   rcases List.mem_cons.1 hx with rfl | hx
   · exact .inl h
   · exact .inr ⟨x, hx, h⟩
 · rintro (h | ⟨x, hx, h⟩)
   · exact ⟨r, by simp, h⟩
   · exact ⟨x, by simp [hx], h⟩
theorem has_append (a b : List R) (p : Int) : has (a ++ b) p ↔ has a p ∨ has b p := by
 induction a with
 | nil => simp [has_nil]
 | cons r a ih => rw [List.cons_append, has_cons, has_cons, ih, or_assoc]
theorem has_perm {a b : List R} (h : a.Perm b) (p : Int) : has a p ↔ has b p := by
 unfold has
 constructor
 · rintro ⟨r, hr, h'⟩; exact ⟨r, h.mem_iff.1 hr, h'⟩
 · rintro ⟨r, hr, h'⟩; exact ⟨r, h.mem_iff.2 hr, h'⟩
theorem goods_append (a b : List R) : goods (a ++ b) = goods a ++ goods b := by simp [goods]
theorem goods_good {l : List R} {r : R} (h : r ∈ goods l) : good r = true := (List.mem_filter.1 h).2
structure Canon (l : List R) : Prop where
 good : ∀ r ∈ l, good r = true
 apart : l.Pairwise fun a b => a.2 + 1 < b.1
theorem canon_nil : Canon [] := ⟨fun r h => by simp at h, List.Pairwise.nil⟩
theorem canon_one {r : R} (h : S.good r = true) : Canon [r] := ⟨fun x hx => by simp at hx; rw [hx]; exact h, List.pairwise_singleton _ _⟩
theorem Canon.tail {r : R} {l : List R} (h : Canon (r :: l)) : Canon l := ⟨fun x hx => h.good x (by simp [hx]), (List.pairwise_cons.1 h.apart).2⟩
theorem Canon.head {r : R} {l : List R} (h : Canon (r :: l)) : 0 ≤ r.1 ∧ r.1 ≤ r.2 ∧ r.2 ≤ 1114111 := (good_iff r).1 (h.good r (by simp))
theorem Canon.behind {r : R} {l : List R} (h : Canon (r :: l)) {p : Int} (hp : has l p) : r.2 + 1 < p := by
 obtain ⟨x, hx, h1, h2⟩ := hp
 have := (List.pairwise_cons.1 h.apart).1 x hx
 omega
theorem Canon.bounds {l : List R} (h : Canon l) {p : Int} (hp : has l p) : 0 ≤ p ∧ p ≤ 1114111 := by
 obtain ⟨x, hx, h1, h2⟩ := hp
 have := (good_iff x).1 (h.good x hx)
 omega
theorem Canon.goods {l : List R} (h : Canon l) : S.goods l = l := List.filter_eq_self.2 h.good
theorem Canon.hs {l : List R} (h : Canon l) (p : Int) : S.hs l p ↔ has l p := by unfold S.hs; rw [h.goods]
theorem canon_eq : ∀ {a b : List R}, Canon a → Canon b → (∀ p, has a p ↔ has b p) → a = b := by
 intro a
 induction a with
 | nil =>
   intro b _ hb h
   cases b with
   | nil => rfl
   | cons y b =>
     have := hb.head
     exact absurd ((h y.1).2 ((has_cons y b y.1).2 (.inl ⟨by omega, by omega⟩))) (has_nil _)
 | cons x a ih =>
   intro b ha hb h
   cases b with
   | nil =>
     have := ha.head
     exact absurd ((h x.1).1 ((has_cons x a x.1).2 (.inl ⟨by omega, by omega⟩))) (has_nil _)
   | cons y b =>
     have hx := ha.head
     have hy := hb.head
     have e1 : y.1 ≤ x.1 := by
       rcases (has_cons y b x.1).1 ((h x.1).1 ((has_cons x a x.1).2 (.inl ⟨by omega, by omega⟩))) with h' | h'
       · exact h'.1
       · have := hb.behind h'; omega
     have e2 : x.1 ≤ y.1 := by
       rcases (has_cons x a y.1).1 ((h y.1).2 ((has_cons y b y.1).2 (.inl ⟨by omega, by omega⟩))) with h' | h'
       · exact h'.1
       · have := ha.behind h'; omega
     have e3 : x.2 ≤ y.2 := by
       apply Int.not_lt.1
       intro hlt
       rcases (has_cons y b (y.2 + 1)).1 ((h (y.2 + 1)).1 ((has_cons x a (y.2 + 1)).2 (.inl ⟨by omega, by omega⟩))) with h' | h'
       · omega
       · have := hb.behind h'; omega
     have e4 : y.2 ≤ x.2 := by
       apply Int.not_lt.1
       intro hlt
       rcases (has_cons x a (x.2 + 1)).1 ((h (x.2 + 1)).2 ((has_cons y b (x.2 + 1)).2 (.inl ⟨by omega, by omega⟩))) with h' | h'
       · omega
       · have := ha.behind h'; omega
     have exy : x = y := Prod.ext (by omega) (by omega)
     subst exy
     rw [ih ha.tail hb.tail]
     intro p
     constructor
     · intro hp
       have h1 := ha.behind hp
       rcases (has_cons x b p).1 ((h p).1 ((has_cons x a p).2 (.inr hp))) with h' | h'
       · omega
       · exact h'
     · intro hp
       have h1 := hb.behind hp
       rcases (has_cons x a p).1 ((h p).2 ((has_cons x b p).2 (.inr hp))) with h' | h'
       · omega
       · exact h'
def glue (out : List R) (s : R) : List R :=
 match out.getLast? with
 | none => [s]
 | some z => if z.2 + 1 < s.1 then out ++ [s] else out.dropLast ++ [(z.1, max z.2 s.2)]
theorem canon_append {a b : List R} : Canon (a ++ b) ↔ Canon a ∧ Canon b ∧ ∀ x ∈ a, ∀ y ∈ b, x.2 + 1 < y.1 := by
 constructor
 · intro h
   have h2 := List.pairwise_append.1 h.apart
   exact ⟨⟨fun r hr => h.good r (by simp [hr]), h2.1⟩, ⟨fun r hr => h.good r (by simp [hr]), h2.2.1⟩, h2.2.2⟩
 · rintro ⟨h1, h2, h3⟩
   refine ⟨fun r hr => ?_, List.pairwise_append.2 ⟨h1.apart, h2.apart, h3⟩⟩
   rcases List.mem_append.1 hr with hr | hr
   · exact h1.good r hr
   · exact h2.good r hr
structure Glued (done out : List R) : Prop where
 canon : Canon out
 mem : ∀ p, has out p ↔ has done p
 low : ∀ r ∈ out, ∃ d ∈ done, r.1 = d.1
theorem glued_nil : Glued [] [] := ⟨canon_nil, fun _ => Iff.rfl, fun r h => by simp at h⟩
theorem Glued.step {done out : List R} {s : R} (h : Glued done out) (hg : S.good s = true) (hlo : ∀ d ∈ done, d.1 ≤ s.1) : Glued (done ++ [s]) (glue out s) := by
 have hs' := (good_iff s).1 hg
 have hlow : ∀ r ∈ out, r.1 ≤ s.1 := fun r hr => by
   obtain ⟨d, hd, e⟩ := h.low r hr
   have := hlo d hd
   omega
 unfold glue
 rcases out.eq_nil_or_concat with rfl | ⟨o, z, rfl⟩
 · have hd : ∀ p, ¬ has done p := fun p hp => has_nil p ((h.mem p).2 hp)
   refine ⟨canon_one hg, fun p => ?_, fun r hr => ⟨s, by simp, by simp at hr; rw [hr]⟩⟩
   simp only [List.getLast?_nil]
   rw [has_append]
   constructor
   · exact .inr
   · rintro (hp | hp)
     · exact absurd hp (hd p)
     · exact hp
 · rw [List.concat_eq_append] at *
   have hc := canon_append.1 h.canon
   have hz := (good_iff z).1 (h.canon.good z (by simp))
   have hzl := hlow z (by simp)
   have hone : ∀ (x : R) (p : Int), has [x] p ↔ x.1 ≤ p ∧ p ≤ x.2 := fun x p => by rw [has_cons]; simp [has_nil]
   simp only [List.getLast?_append, List.getLast?_singleton, Option.some_or, List.dropLast_concat]
   split
   · rename_i ha
     refine ⟨canon_append.2 ⟨h.canon, canon_one hg, fun x hx y hy => ?_⟩, fun p => ?_, fun r hr => ?_⟩
     · simp at hy; subst hy
       rcases List.mem_append.1 hx with hx | hx
       · have := hc.2.2 x hx z (by simp); omega
       · simp at hx; subst hx; exact ha
     · rw [has_append (o ++ [z]), has_append done, h.mem]
     · rcases List.mem_append.1 hr with hr | hr
       · obtain ⟨d, hd, e⟩ := h.low r hr
         exact ⟨d, by simp [hd], e⟩
       · simp at hr; subst hr
         exact ⟨r, by simp, rfl⟩
   · rename_i ha
     refine ⟨canon_append.2 ⟨hc.1, canon_one ((good_iff _).2 ⟨by simpa using hz.1, by simp; omega, by simp; omega⟩), fun x hx y hy => ?_⟩, fun p => ?_, fun r hr => ?_⟩
     · simp at hy; subst hy
       exact hc.2.2 x hx z (by simp)
     · rw [has_append, has_append, ← h.mem, has_append, hone, hone, hone]
       constructor
       · rintro (hp | hp)
         · exact .inl (.inl hp)
         · simp only at hp
           by_cases h1 : p ≤ z.2
           · exact .inl (.inr ⟨hp.1, h1⟩)
           · exact .inr ⟨by omega, by omega⟩
       · rintro ((hp | hp) | hp)
         · exact .inl hp
         · exact .inr ⟨hp.1, by simp only; omega⟩
         · exact .inr ⟨by simp only; omega, by simp only; omega⟩
     · rcases List.mem_append.1 hr with hr | hr
       · obtain ⟨d, hd, e⟩ := h.low r (by simp [hr])
         exact ⟨d, by simp [hd], e⟩
       · simp at hr; subst hr
         obtain ⟨d, hd, e⟩ := h.low z (by simp)
         exact ⟨d, by simp [hd], e⟩
def gaps (f : Int) : List R → List R
 | [] => [(f, 1114111)]
 | s :: l => (if f < s.1 then [(f, s.1 - 1)] else []) ++ (if s.2 = 1114111 then [] else gaps (s.2 + 1) l)
def hasB (l : List R) (p : Int) : Bool := l.any fun r => decide (r.1 ≤ p) && decide (p ≤ r.2)
theorem hasB_iff (l : List R) (p : Int) : hasB l p = true ↔ has l p := by simp [hasB, has]
theorem glue_length (out : List R) (s : R) : (glue out s).length ≤ out.length + 1 := by
 unfold glue
 rcases out.eq_nil_or_concat with rfl | ⟨o, z, rfl⟩
 · simp
 · rw [List.concat_eq_append]
   simp only [List.getLast?_append, List.getLast?_singleton, Option.some_or, List.dropLast_concat]
   split <;> simp
theorem exists_canon_of' (l : List R) : ∃ z, Canon z ∧ (∀ p, has z p ↔ hs l p) ∧ z.length ≤ l.length := by
 obtain ⟨m, hm⟩ : ∃ m, m = (goods l).mergeSort (fun a b => decide (a.1 ≤ b.1)) := ⟨_, rfl⟩
 have hp : m.Perm (goods l) := hm ▸ List.mergeSort_perm _ _
 have hsort : m.Pairwise (fun a b => a.1 ≤ b.1) := by
   have := List.pairwise_mergeSort (le := fun a b : R => decide (a.1 ≤ b.1)) (fun a b c h1 h2 => by simp at *; omega) (fun a b => by simp; omega) (goods l)
   rw [← hm] at this
   exact this.imp (by simp)
 have key : ∀ (rest done out : List R), Glued done out → (∀ r ∈ rest, S.good r = true) → rest.Pairwise (fun a b => a.1 ≤ b.1) → (∀ d ∈ done, ∀ r ∈ rest, d.1 ≤ r.1) → ∃ z, Glued (done ++ rest) z ∧ z.length ≤ out.length + rest.length := by
   intro rest
   induction rest with
   | nil => intro done out h _ _ _; exact ⟨out, by rw [List.append_nil]; exact h, by simp⟩
   | cons s rest ih =>
     intro done out h hg hs hd
     obtain ⟨z, h1, h2⟩ := ih (done ++ [s]) (glue out s) (h.step (hg s (by simp)) (fun d hd' => hd d hd' s (by simp))) (fun r hr => hg r (by simp [hr])) (List.pairwise_cons.1 hs).2 (fun d hd' r hr => by
       rcases List.mem_append.1 hd' with hd' | hd'
       · exact hd d hd' r (by simp [hr])
       · simp at hd'; subst hd'; exact (List.pairwise_cons.1 hs).1 r hr)
     rw [List.append_assoc] at h1
     have := glue_length out s
     exact ⟨z, h1, by simp only [List.length_cons]; omega⟩
 obtain ⟨z, hz, hzl⟩ := key m [] [] glued_nil (fun r hr => goods_good (hp.mem_iff.1 hr)) hsort (fun d hd => by simp at hd)
 have h3 : m.length ≤ l.length := by rw [hp.length_eq]; exact List.length_filter_le _ _
 exact ⟨z, hz.canon, fun p => by rw [hz.mem, List.nil_append, has_perm hp]; rfl, by simp only [List.length_nil] at hzl; omega⟩
theorem exists_canon_of (l : List R) : ∃ z, Canon z ∧ ∀ p, has z p ↔ hs l p :=
 let ⟨z, h1, h2, _⟩ := exists_canon_of' l
 ⟨z, h1, h2⟩
noncomputable def set (l : List R) : List R := Classical.choose (exists_canon_of l)
theorem set_canon (l : List R) : Canon (set l) := (Classical.choose_spec (exists_canon_of l)).1
theorem set_has (l : List R) (p : Int) : has (set l) p ↔ hs l p := (Classical.choose_spec (exists_canon_of l)).2 p
theorem set_eq {l z : List R} (h : Canon z) (hh : ∀ p, has z p ↔ hs l p) : z = set l := canon_eq h (set_canon l) fun p => by rw [hh, set_has]
theorem set_self {l : List R} (h : Canon l) : set l = l := (set_eq h fun p => (h.hs p).symm).symm
theorem set_length (l : List R) : (set l).length ≤ l.length := by
 obtain ⟨z, h1, h2, h3⟩ := exists_canon_of' l
 rw [← set_eq h1 h2]
 exact h3
noncomputable def not (l : List R) : List R := gaps 0 (set l)
end S
end Go.Proofs.YtgngaldoemopjaaGreatDoor.U
namespace Go.Proofs.YtgngaldoemopjaaGreatDoor.U
namespace Reg
open Go.RowKit
def ov (a : Act) : List (Nat × Value) → Act
 | [] => a
 | p :: l => (ov a l).put (some p.1) p.2
def look (a : Act) : List (Nat × Value) → Nat → Value
 | [], t => a.tmps.getD t undef
 | p :: l, t => cond (Nat.beq p.1 t) p.2 (look a l t)
def ev (a : Act) (l : List (Nat × Value)) : Operand → Value
 | .tmp t => look a l t
 | .const v => v
 | .global g => .pointer (some ⟨g, 0, none⟩)
 | .func f => .func (.func f) #[] #[]
def inB (a : Act) : List (Nat × Value) → Bool
 | [] => true
 | p :: l => Nat.blt p.1 a.tmps.size && inB a l
theorem ov_size (a : Act) : ∀ l, (ov a l).tmps.size = a.tmps.size
 | [] => rfl
 | p :: l => by simp only [ov, Act.put, Array.size_setIfInBounds]; exact ov_size a l
theorem ov_defers (a : Act) : ∀ l, (ov a l).defers = a.defers
 | [] => rfl
 | p :: l => by simp only [ov, Act.put]; exact ov_defers a l
theorem ov_look (a : Act) (t : Nat) : ∀ l, inB a l = true → (ov a l).tmps.getD t undef = look a l t
 | [], _ => rfl
 | p :: l, h => by
   simp only [inB, Bool.and_eq_true] at h
   have hp : p.1 < a.tmps.size := by have := h.1; rw [Nat.blt_eq] at this; exact this
   have ih := ov_look a t l h.2
   simp only [ov, Act.put, look]
   by_cases e : p.1 = t
   · subst e
     rw [show Nat.beq p.1 p.1 = true from Nat.beq_refl _, cond_true]
     simp [Array.getD, ov_size, hp]
   · have hne : Nat.beq p.1 t = false := by
       cases hb : Nat.beq p.1 t with
       | true => exact absurd (Nat.eq_of_beq_eq_true hb) e
       | false => rfl
     rw [hne, cond_false, ← ih]
     simp only [Array.getD_eq_getD_getElem?, Array.getElem?_setIfInBounds_ne e]
theorem ov_eval (a : Act) (l : List (Nat × Value)) (h : inB a l = true) : (ov a l).eval = ev a l := by
 funext x
 cases x with
 | tmp t => exact ov_look a t l h
 | const v => rfl
 | global g => rfl
 | func f => rfl
def wantB (ops : Array Oper) (a : Act) (l : List (Nat × Value)) (o : Oper) : Bool :=
 match o.guard with
 | none => true
 | some (j, want) => match (ops[j]?).bind (·.dst) with
   | none => false
   | some d => Nat.blt d a.tmps.size && (match look a l d with
     | .bool b => b == want
     | _ => false)
theorem wanted_of (ops : Array Oper) (a : Act) (l : List (Nat × Value)) (o : Oper) (hb : inB a l = true) (h : wantB ops a l o = true) : Region.wanted o (yielded ops (ov a l).tmps) = true := by
 unfold wantB at h
 unfold Region.wanted
 split at h
 · rename_i hg; rw [hg]
 · rename_i j want hg
   rw [hg]
   simp only
   split at h
   · cases h
   · rename_i d hd
     simp only [Bool.and_eq_true] at h
     have hlt : d < (ov a l).tmps.size := by rw [ov_size]; have := h.1; rw [Nat.blt_eq] at this; exact this
     have hlk := ov_look a d l hb
     unfold yielded
     rw [hd, Option.bind_some]
     have e : (ov a l).tmps[d]? = some (look a l d) := by
       rw [← hlk, Array.getElem?_eq_getElem hlt]
       simp [Array.getD, hlt]
     rw [e]
     have h2 := h.2
     split at h2
     · rename_i b hb'
       rw [hb']
       simpa using h2
     · cases h2
def lst (n : Nat) : List Nat → Array Bool
 | [] => Array.replicate n false
 | i :: ks => (lst n ks).setIfInBounds i true
def G (P : Program) (ops : Array Oper) (Q : Exit → Act → World → Prop) (a : Act) (B : Nat) (fuel : Nat) (ks : List Nat) (l : List (Nat × Value)) (w : World) : Prop :=
 wpAnyH P .any ops Q (fun w' => Below B w w') fuel (lst ops.size ks) (ov a l) w
section
variable {P : Program} {ops : Array Oper} {Q : Exit → Act → World → Prop} {a : Act} {B fuel : Nat} {ks : List Nat} {l : List (Nat × Value)} {w : World}
theorem mono_held {S S' : World → Prop} (h : ∀ w, S' w → S w) : ∀ (fuel : Nat) (listed : Array Bool) (a : Act) (w : World), wpAnyH P .any ops Q S' fuel listed a w → wpAnyH P .any ops Q S fuel listed a w
 | 0, _, _, _, hh => hh
 | fuel + 1, _, _, _, hh => ⟨hh.1, fun i hi => wpOp_mono (fun a' w' h' => ⟨h w' h'.1, mono_held h fuel _ a' w' h'.2⟩) (hh.2 i hi)⟩
theorem start {id : Nat} (hm : P.follows .mixedOrders = true) (h : G P ops Q a B ops.size [] [] w.drew) : (Code.region id ops true).wp P Q a w :=
 wp_region_held hm h
theorem done (hr : Region.ready .any ops (lst ops.size ks) = []) (h : Q .normal (ov a l) w) : G P ops Q a B fuel ks l w := wpAnyH_done hr h fuel
theorem take (hQ : ∀ c (a : Act) (d : Nat) v w, Q (.panic c) (a.put (some d) v) w → Q (.panic c) a w) (i : Nat) (o : Oper) (d : Nat) (v : Value) (hi : ops[i]? = some o) (hs : Region.noSelect ops = true) (hf : Region.free .any ops (lst ops.size ks) i = true)
   (hr : (Region.ready .any ops (lst ops.size ks)).contains i = true) (hd : o.dst = some d) (hb : inB a l = true) (hw : wantB ops a l o = true)
   (hy : ∀ w', Below B w w' → (execOp (ev a l) o).run P w' = .ok (.value v) w') (h : G P ops Q a B fuel (i :: ks) ((d, v) :: l) w) : G P ops Q a B (fuel + 1) ks l w := by
 refine wpAnyH_take (v := v) hi hs hf hr (fun c a' w' hh => hQ c a' d v w' (by rw [hd] at hh; exact hh)) (.inl ⟨wanted_of ops a l o hb hw, fun w' hw' => ?_⟩) (Below.refl _ _) ?_
 · rw [ov_eval a l hb]; exact hy w' hw'
 · rw [hd]; exact h
theorem call (i : Nat) (o : Oper) (d f : Nat) (xs : Array Operand) (ats : Array TypeId) (vs : Array Value) (hi : ops[i]? = some o) (hr : Region.ready .any ops (lst ops.size ks) = [i]) (hd : o.dst = some d) (hb : inB a l = true) (hw : wantB ops a l o = true)
   (hop : o.op = .call { callee := .value (.func f), args := xs, argTypes := ats }) (hvs : #[] ++ xs.map (ev a l) ++ #[] = vs) (hent : (callFunc f vs).run P w = .ok (.enter f vs) w)
   {R : Ending → World → Prop} (hc : Calls P f vs w R) (hR : ∀ e w', R e w' → ∃ v B', e = .returned v ∧ B ≤ B' ∧ Below B w w' ∧ G P ops Q a B' fuel (i :: ks) ((d, v) :: l) w') : G P ops Q a B (fuel + 1) ks l w := by
 refine wpAnyH_all hr (by simp) fun j hj => ?_
 obtain rfl : j = i := by simpa using hj
 unfold wpOp
 simp only [hi]
 rw [if_pos (wanted_of ops a l o hb hw)]
 refine .inl ?_
 unfold Oper.wp
 have he : (execOp (ev a l) o).run P w = .ok (.enter f vs) w := by
   obtain ⟨dst, op, type, pos, after, guard⟩ := o
   simp only at hop
   subst hop
   show (callFunc f (#[] ++ xs.map (ev a l) ++ #[])).run P w = _
   rw [hvs]
   exact hent
 rw [ov_eval a l hb, he]
 simp only [Oper.upon]
 refine hc.mono fun e w' hr' => ?_
 obtain ⟨v, B', rfl, hBB, hbl, hg⟩ := hR e w' hr'
 simp only [hd]
 exact ⟨hbl, mono_held (fun x hx => hbl.trans (hx.mono hBB)) _ _ _ _ hg⟩
end
theorem app {P : Program} {w w' : World} {ρ : Operand → Value} {o : Oper} {t u : TypeId} {x y : Operand} {vx vy v : Value} (hop : o.op = .call { callee := .builtin .append, args := #[x, y], argTypes := #[t, u] }) (hx : ρ x = vx) (hy : ρ y = vy)
   (h : (Builtin.append_ #[t, u] o.type #[vx, vy]).run P w = .ok v w') : (execOp ρ o).run P w = .ok (.value v) w' := by
 obtain ⟨dst, op, type, pos, after, guard⟩ := o
 simp only at hop h
 subst hop
 simp [execOp, resolve, invoke, builtin, hx, hy, h, Result.andThen]
theorem ld {P : Program} {w : World} {ρ : Operand → Value} {o : Oper} {ty : TypeId} {x : Operand} {b off : Nat} {cs : List Value} {d : TypeDesc} (hop : o.op = .load ty x) (hx : ρ x = .pointer (some ⟨b, off, none⟩)) (hc : w.rangeAt b off cs)
   (hu : P.underlying ty = some d) (hd : d.isRow = true) (hi : (P.info? ty).map (·.size) = some cs.length) : (execOp ρ o).run P w = .ok (.value (.agg cs.toArray)) w := by
 obtain ⟨dst, op, type, pos, after, guard⟩ := o
 simp only at hop
 subst hop
 simp only [execOp, hx, Sem.run_bind, run_loadAt_mid w b off ty cs d hc hu hd hi, Result.andThen_ok, Sem.run_pure]
end Reg
theorem range_two {w : World} {b off : Nat} {u v : Value} (h0 : w.cell? ⟨b, off, none⟩ = some u) (h1 : w.cell? ⟨b, off + 1, none⟩ = some v) : w.rangeAt b off [u, v] := by
 intro j x hx
 match j, hx with
 | 0, hx => simp at hx; subst hx; exact h0
 | 1, hx => simp at hx; subst hx; exact h1
 | j + 2, hx => simp at hx
theorem range_block {w : World} {b : Nat} {u v : Value} {t : TypeId} {fz : Nat × Nat} (h : w.heap[b]? = some (.cells #[u, v] t fz)) : w.rangeAt b 0 [u, v] :=
 range_two (by simp [World.cell?, h]) (by simp [World.cell?, h])
end Go.Proofs.YtgngaldoemopjaaGreatDoor.U
namespace Go.Proofs.YtgngaldoemopjaaGreatDoor.U
open Go.RowKit
theorem hide {p : Prop} (h : p) : Hid p := h
theorem nx {w w1 w2 : World} (h : Below w.heap.size w w1) (h1 : Below w1.heap.size w1 w2) : Below w.heap.size w w2 := h.trans (h1.mono h.size)
theorem al1 (w : World) (o : Obj) : Below w.heap.size w (w.alloc o) := (Below.refl _ w).alloc (Nat.le_refl _) _
theorem al2 (w : World) (o o' : Obj) : Below w.heap.size w ((w.alloc o).alloc o') := (al1 w o).alloc (by simp) _
set_option maxHeartbeats 1000000 in
theorem space_any (w : World) : Calls Tryz.prog 135 #[] w fun e w' => e = .returned (.agg #[.int .i32 0, .int .i32 1114111]) ∧ Below w.heap.size w w' := by
 go_enter Tryz.func135, Tryz.ntmps135
 go_wp2
 exact bodyPost_ret (v := .agg #[.int .i32 0, .int .i32 1114111]) (by simp [results, Tryz.results135, go_sem]) rfl ⟨rfl, al1 w _⟩
set_option maxHeartbeats 1000000 in
theorem spanOf_any (x y : Int) (w : World) : Calls Tryz.prog 107 #[.agg #[.int .i32 x, .int .i32 y]] w fun e w' => e = .returned (.agg #[.int .i32 x, .int .i32 y]) ∧ Below w.heap.size w w' := by
 go_enter Tryz.func107, Tryz.ntmps107
 go_wp2
 exact bodyPost_ret (v := .agg #[.int .i32 x, .int .i32 y]) (by simp [results, Tryz.results107, go_sem]) rfl ⟨rfl, al2 w _ _⟩
set_option maxHeartbeats 1000000 in
theorem holds_any (a b x y : Int) (w : World) : Calls Tryz.prog 136 #[.agg #[.int .i32 a, .int .i32 b], .agg #[.int .i32 x, .int .i32 y]] w fun e w' => e = .returned (.bool (decide (a ≤ x) && (decide (x ≤ y) && decide (y ≤ b)))) ∧ Below w.heap.size w w' := by
 generalize hr : (decide (a ≤ x) && (decide (x ≤ y) && decide (y ≤ b))) = r
 go_enter Tryz.func136, Tryz.ntmps136
 go_wp2
 all_goals
   go_ret
   refine ⟨?_, al2 w _ _⟩
   subst hr
   simp [*]
   try (intros; omega)
set_option maxHeartbeats 1000000 in
theorem apart_any (a b x y : Int) (h : -2147483648 ≤ b) (hx : -2147483648 ≤ x ∧ x ≤ 2147483647) (w : World) : Calls Tryz.prog 118 #[.agg #[.int .i32 a, .int .i32 b], .agg #[.int .i32 x, .int .i32 y]] w fun e w' => e = .returned (.bool (decide (b + 1 < x))) ∧ Below w.heap.size w w' := by
 generalize hr : decide (b + 1 < x) = r
 by_cases h1 : b < x
 · have hw : IntKind.i32.wrap (x - 1) = x - 1 := by simp [IntKind.wrap, IntKind.bits, IntKind.signed]; omega
   go_enter Tryz.func118, Tryz.ntmps118
   go_wp2
   go_ret
   refine ⟨?_, al2 w _ _⟩
   rw [← hr]
   congr 2
   simp
   omega
 · go_enter Tryz.func118, Tryz.ntmps118
   go_wp2
   go_ret
   refine ⟨?_, al2 w _ _⟩
   rw [← hr]
   congr 2
   simp
   omega
set_option maxHeartbeats 1000000 in
theorem isGood_any (x y : Int) (w : World) : Calls Tryz.prog 106 #[.agg #[.int .i32 x, .int .i32 y]] w fun e w' => e = .returned (.bool (S.good (x, y))) ∧ Below w.heap.size w w' := by
 have h1 := holds_any 0 1114111 x y
 rw [show (decide (0 ≤ x) && (decide (x ≤ y) && decide (y ≤ 1114111))) = S.good (x, y) from rfl] at h1
 generalize S.good (x, y) = r at h1 ⊢
 go_enter Tryz.func106, Tryz.ntmps106
 go_wp2_with fail
 have hb0 := al1 w (.cells #[.int .i32 x, .int .i32 y] 140)
 refine Reg.start (B := (w.alloc (.cells #[.int .i32 x, .int .i32 y] 140)).drew.heap.size) (by kernel_rfl) ?_
 refine Reg.take (fun _ _ _ _ _ h => h) 1 _ 4 (.agg #[.int .i32 x, .int .i32 y]) rfl (by kernel_rfl) (by kernel_rfl) (by kernel_rfl) rfl (by kernel_rfl) (by kernel_rfl) (fun wx hb => ?_) ?_
 · have h2 := hb.block w.heap.size (by simp)
   rw [show (w.alloc (.cells #[.int .i32 x, .int .i32 y] 140)).drew.heap[w.heap.size]? = some (.cells #[.int .i32 x, .int .i32 y] 140) from heap_alloc_new w _] at h2
   exact Reg.ld (b := w.heap.size) (off := 0) (cs := [.int .i32 x, .int .i32 y]) rfl (by kernel_rfl) (range_block h2) Tryz.underlying140 rfl (by kernel_rfl)
 refine Reg.call 0 _ 3 135 _ _ #[] rfl (by kernel_rfl) rfl (by kernel_rfl) (by kernel_rfl) rfl (by kernel_rfl) (by kernel_rfl) (space_any _) ?_
 rintro e w1 ⟨rfl, hb1⟩
 refine ⟨_, w1.heap.size, rfl, hb1.size, hb1, ?_⟩
 refine Reg.call 2 _ 5 107 _ _ #[.agg #[.int .i32 x, .int .i32 y]] rfl (by kernel_rfl) rfl (by kernel_rfl) (by kernel_rfl) rfl (by kernel_rfl) (by kernel_rfl) (spanOf_any x y _) ?_
 rintro e w2 ⟨rfl, hb2⟩
 refine ⟨_, w2.heap.size, rfl, hb2.size, hb2, ?_⟩
 refine Reg.call 3 _ 6 136 _ _ #[.agg #[.int .i32 0, .int .i32 1114111], .agg #[.int .i32 x, .int .i32 y]] rfl (by kernel_rfl) rfl (by kernel_rfl) (by kernel_rfl) rfl (by kernel_rfl) (by kernel_rfl) (h1 _) ?_
 rintro e w3 ⟨rfl, hb3⟩
 refine ⟨_, w3.heap.size, rfl, hb3.size, hb3, ?_⟩
 refine Reg.take (fun _ _ _ _ _ h => h) 4 _ 2 (.bool r) rfl (by kernel_rfl) (by kernel_rfl) (by kernel_rfl) rfl (by kernel_rfl) (by kernel_rfl) (fun _ _ => by kernel_rfl) ?_
 refine Reg.done (by kernel_rfl) ?_
 go_wp2
 refine bodyPost_ret (results_tmp rfl _ _ _) ((Reg.ov_defers _ _).trans rfl) ?_
 exact ⟨congrArg Ending.returned ((Reg.ov_look _ 2 _ (by kernel_rfl)).trans (by kernel_rfl)), nx (nx (nx hb0.drew hb1) hb2) hb3⟩
set_option maxHeartbeats 1000000 in
theorem isNaN_any (x : Int) (w : World) : Calls Tryz.prog 217 #[.int .i32 x] w fun e w' => e = .returned (.bool false) ∧ w' = w := by
 go_enter Tryz.func217, Tryz.ntmps217
 go_wp2
 go_ret
 exact ⟨by simp, rfl⟩
set_option maxHeartbeats 1000000 in
theorem cmp_any (x y : Int) (w : World) : Calls Tryz.prog 197 #[.int .i32 x, .int .i32 y] w fun e w' => e = .returned (.int .i64 (if x < y then -1 else if y < x then 1 else 0)) ∧ w' = w := by
 generalize hr : (if x < y then (-1 : Int) else if y < x then 1 else 0) = r
 go_enter Tryz.func197, Tryz.ntmps197
 go_wp2_with (go_at_call 217; refine (isNaN_any _ _).mono ?_; rintro e w' ⟨rfl, rfl⟩)
 all_goals
   go_ret
   refine ⟨?_, rfl⟩
   rw [← hr]
   congr 2
   simp [*]
   try omega
end Go.Proofs.YtgngaldoemopjaaGreatDoor.U
namespace Go.Proofs.YtgngaldoemopjaaGreatDoor.U
open Go.RowKit Go.Shelf
def cR (xs : List S.R) : List Value := xs.flatMap fun r => [Value.int .i32 r.1, Value.int .i32 r.2]
theorem cR_cons (x : S.R) (xs : List S.R) : cR (x :: xs) = .int .i32 x.1 :: .int .i32 x.2 :: cR xs := rfl
theorem cR_append (xs ys : List S.R) : cR (xs ++ ys) = cR xs ++ cR ys := by simp [cR]
theorem cR_length (xs : List S.R) : (cR xs).length = xs.length * 2 := by
 induction xs with
 | nil => rfl
 | cons x xs ih => rw [cR_cons]; simp [ih]; omega
theorem cR_one (xs : List S.R) : ∀ u ∈ cR xs, u.oneCell' = true := by
 intro u hu
 obtain ⟨r, _, h⟩ := List.mem_flatMap.1 hu
 simp at h
 rcases h with rfl | rfl <;> rfl
theorem cR_at (xs : List S.R) (i : Nat) (h : i < xs.length) : (cR xs)[i * 2]? = some (.int .i32 xs[i].1) ∧ (cR xs)[i * 2 + 1]? = some (.int .i32 xs[i].2) := by
 induction xs generalizing i with
 | nil => simp at h
 | cons x xs ih =>
   cases i with
   | zero => rw [cR_cons]; simp
   | succ i =>
     rw [cR_cons]
     have := ih i (by simpa using h)
     rw [show (i + 1) * 2 = i * 2 + 1 + 1 by omega]
     simpa using this
def RdR (w : World) (ao : Option Addr) (xs : List S.R) : Prop :=
 ∀ i (h : i < xs.length), ∃ b off, ao = some ⟨b, off, none⟩ ∧ w.cell? ⟨b, off + i * 2, none⟩ = some (.int .i32 xs[i].1) ∧ w.cell? ⟨b, off + i * 2 + 1, none⟩ = some (.int .i32 xs[i].2)
theorem rdr_nil (w : World) (ao : Option Addr) : RdR w ao [] := fun i h => by simp at h
theorem RdR.later {w wx : World} {ao : Option Addr} {xs : List S.R} (h : RdR w ao xs) (hb : Below w.heap.size w wx) : RdR wx ao xs := fun i hi =>
 let ⟨b, off, e, h1, h2⟩ := h i hi
 ⟨b, off, e, cell_later hb h1, cell_later hb h2⟩
theorem RdR.kept {W W' : World} {ao : Option Addr} {xs : List S.R} {row : Option Nat} (h : RdR W ao xs) (hg : W.grownBy W' row) (hr : ∀ r, row = some r → ∃ o : Obj, W.heap[r]? = some o ∧ o.isCells = false) : RdR W' ao xs := fun i hi =>
 let ⟨b, off, e, h1, h2⟩ := h i hi
 ⟨b, off, e, cell_kept h1 hg hr, cell_kept h2 hg hr⟩
theorem cell_lt {w : World} {a : Addr} {v : Value} (h : w.cell? a = some v) : a.block < w.heap.size := by
 unfold World.cell? at h
 cases hq : w.heap[a.block]? with
 | none => simp [hq] at h
 | some o => exact (Array.getElem?_eq_some_iff.1 hq).1
def Lo (n0 : Nat) (ao : Option Addr) (len : Nat) : Prop := ∀ b off, ao = some ⟨b, off, none⟩ → 0 < len → b < n0
theorem Lo.mono {n m : Nat} {ao : Option Addr} {len : Nat} (h : Lo n ao len) (hm : n ≤ m) : Lo m ao len := fun b off e hl => Nat.lt_of_lt_of_le (h b off e hl) hm
theorem RdR.lo {w : World} {ao : Option Addr} {xs : List S.R} (h : RdR w ao xs) : Lo w.heap.size ao xs.length := by
 intro b off e hl
 obtain ⟨b', off', e', h1, _⟩ := h 0 hl
 rw [e] at e'
 cases e'
 exact cell_lt h1
theorem RdR.under {A B : World} {n : Nat} {ao : Option Addr} {xs : List S.R} (h : RdR A ao xs) (hlo : Lo n ao xs.length) (hc : ∀ a v, a.block < n → A.cell? a = some v → B.cell? a = some v) : RdR B ao xs := fun i hi =>
 let ⟨b, off, e, h1, h2⟩ := h i hi
 ⟨b, off, e, hc _ _ (hlo b off e (by omega)) h1, hc _ _ (hlo b off e (by omega)) h2⟩
theorem grown_below {w w' : World} (h : Below w.heap.size w w') (row : Option Nat) : w.grownBy w' row := ⟨h.os, h.tape, h.output, h.size, fun k hk _ => h.block k hk⟩
def OwnR (w : World) (B : Nat) (e : TypeId) (v : Value) (xs : List S.R) : Prop := w.ownsRow B e 2 v xs.length (cR xs)
theorem ownR_nil (w : World) (B : Nat) (e : TypeId) : OwnR w B e (.slice none 0 0) [] := World.ownsRow_nil w _ _ _
theorem OwnR.block {w : World} {B : Nat} {e : TypeId} {v : Value} {xs : List S.R} (h : OwnR w B e v xs) : ∀ k, v.ownBlock = some k → B ≤ k := by
 intro g hg
 obtain ⟨_, ⟨rfl, _⟩ | ⟨g', cap', cur', rfl, hg', _⟩⟩ := h
 · simp [Value.ownBlock] at hg
 · simp [Value.ownBlock] at hg; omega
theorem OwnR.rd {w : World} {B : Nat} {e : TypeId} {v : Value} {xs : List S.R} (h : OwnR w B e v xs) : ∃ ao cap, v = .slice ao xs.length cap ∧ xs.length ≤ cap ∧ (ao = none → cap = 0) ∧ RdR w ao xs := by
 obtain ⟨_, h | ⟨g, cap, cur, rfl, _, hg, hle, _, hsz, hxs⟩⟩ := h
 · obtain ⟨rfl, hn⟩ := h
   have : xs = [] := List.eq_nil_of_length_eq_zero hn
   subst this
   exact ⟨none, 0, rfl, Nat.le_refl _, fun _ => rfl, rdr_nil _ _⟩
 · refine ⟨_, cap, rfl, hle, fun h => (by cases h), fun i hi => ⟨g, 0, rfl, ?_, ?_⟩⟩
   all_goals
     have ha := cR_at xs i hi
     simp only [World.cell?, hg, Nat.zero_add]
   · have h1 : (cur.toList.take (xs.length * 2))[i * 2]? = (cR xs)[i * 2]? := by rw [hxs]
     rw [List.getElem?_take, if_pos (by omega), ha.1] at h1
     simpa using h1
   · have h1 : (cur.toList.take (xs.length * 2))[i * 2 + 1]? = (cR xs)[i * 2 + 1]? := by rw [hxs]
     rw [List.getElem?_take, if_pos (by omega), ha.2] at h1
     simpa using h1
theorem info61 : (Tryz.prog.info? 140).map (fun i => (i.zero, i.size, i.bytes)) = some (some (.agg #[.int .i32 0, .int .i32 0]), 2, 8) := by kernel_rfl
theorem info108 : (Tryz.prog.info? 160).map (fun i => (i.zero, i.size, i.bytes)) = some (some (.agg #[.int .i32 0, .int .i32 0]), 2, 8) := by kernel_rfl
theorem info_parts2 {P : Program} {e : TypeId} {z : Value} {s b : Nat} (h : (P.info? e).map (fun i => (i.zero, i.size, i.bytes)) = some (some z, s, b)) : ∃ i, P.info? e = some i ∧ i.zero = some z ∧ i.size = s ∧ i.bytes = b := by
 cases hq : P.info? e with
 | none => simp [hq] at h
 | some i => simp [hq] at h; exact ⟨i, rfl, h.1, h.2.1, h.2.2⟩
def encP (x : S.R) : Array Value := #[.agg #[.int .i32 x.1, .int .i32 x.2]]
structure Hold (Kp : World → World → Prop) (Q : World → Prop) : Prop where
 grow : ∀ A B, Q A → Below A.heap.size A B → Q B
 step : ∀ A B, Q A → Kp A B → Q B
 fresh : ∀ A cs t B, Q A → Kp (A.alloc (.cells cs t)) B → B.heap[A.heap.size]? = some (.cells cs t)
structure Mine (n0 n1 : Nat) (Ok : World → Prop) (mine : World → Nat → Prop) : Prop where
 lt : ∀ A k, Ok A → mine A k → n0 ≤ k ∧ k < A.heap.size
 grow : ∀ A B, Ok A → Below A.heap.size A B → Ok B ∧ ∀ k, mine B k → mine A k
 turn : ∀ A l o o', Ok A → n1 ≤ l → A.heap[l]? = some o → o.isCells = false → Ok (A.putObj l o') ∧ ∀ k, mine (A.putObj l o') k → mine A k
def KpM (Ok : World → Prop) (mine : World → Nat → Prop) (A B : World) : Prop :=
 Ok A → Ok B ∧ A.heap.size ≤ B.heap.size ∧ (∀ (k : Nat) (o : Obj), A.heap[k]? = some o → o.isCells = true → ¬ mine A k → B.heap[k]? = some o) ∧ ∀ k, mine B k → mine A k ∨ A.heap.size ≤ k
theorem kpM_t {Ok : World → Prop} {mine : World → Nat → Prop} {A B C : World} (h1 : KpM Ok mine A B) (h2 : KpM Ok mine B C) : KpM Ok mine A C := by
 intro hA
 obtain ⟨b1, b2, b3, b4⟩ := h1 hA
 obtain ⟨c1, c2, c3, c4⟩ := h2 b1
 refine ⟨c1, Nat.le_trans b2 c2, fun k o hk ho hm => c3 k o (b3 k o hk ho hm) ho fun hm' => ?_, fun k hk => ?_⟩
 · rcases b4 k hm' with h | h
   · exact hm h
   · have := (Array.getElem?_eq_some_iff.1 hk).1; omega
 · rcases c4 k hk with h | h
   · exact b4 k h
   · exact .inr (by omega)
theorem kpM_b {n0 n1 : Nat} {Ok : World → Prop} {mine : World → Nat → Prop} (hM : Mine n0 n1 Ok mine) (W : World) (l : Nat) (o o' : Obj) (hl : n1 ≤ l) (h : W.heap[l]? = some o) (ho : o.isCells = false) (_ : o.isWalk = false) : KpM Ok mine W (W.putObj l o') := by
 intro hA
 obtain ⟨h1, h2⟩ := hM.turn W l o o' hA hl h ho
 refine ⟨h1, by simp [World.putObj], fun k ob hk hob _ => ?_, fun k hk => .inl (h2 k hk)⟩
 have hne : k ≠ l := by
   rintro rfl
   rw [h] at hk
   cases hk
   rw [ho] at hob
   cases hob
 rw [(grownBy_putObj' W l o').block k (Array.getElem?_eq_some_iff.1 hk).1 (by simpa using hne)]
 exact hk
theorem KpM.cell {n0 n1 : Nat} {Ok : World → Prop} {mine : World → Nat → Prop} (hM : Mine n0 n1 Ok mine) {A B : World} (hA : Ok A) (h : KpM Ok mine A B) {a : Addr} {v : Value} (ha : a.block < n0) (hc : A.cell? a = some v) : B.cell? a = some v := by
 obtain ⟨_, _, h3, _⟩ := h hA
 cases hq : A.heap[a.block]? with
 | none => unfold World.cell? at hc; simp [hq] at hc
 | some o =>
   have ho : o.isCells = true := by
     unfold World.cell? at hc
     rw [hq] at hc
     cases o <;> simp_all [Obj.isCells]
   have := h3 a.block o hq ho (fun hm => by have := (hM.lt A a.block hA hm).1; omega)
   rw [World.cell?_of_block (w := A) (this.trans hq.symm)]
   exact hc
theorem hold_of {n0 n1 : Nat} {Ok : World → Prop} {mine : World → Nat → Prop} (hM : Mine n0 n1 Ok mine) {St : World → Prop} (hg : ∀ A B, St A → Below A.heap.size A B → St B)
   (hs : ∀ A B, St A → (∀ a v, a.block < n0 → A.cell? a = some v → B.cell? a = some v) → St B) : Hold (KpM Ok mine) (fun W => Ok W ∧ St W) where
 grow A B h hb := ⟨(hM.grow A B h.1 hb).1, hg A B h.2 hb⟩
 step A B h hk := ⟨(hk h.1).1, hs A B h.2 (fun a v ha hc => hk.cell hM h.1 ha hc)⟩
 fresh A cs t B h hk := by
   have hb := al1 A (.cells cs t)
   obtain ⟨h1, h2⟩ := hM.grow A _ h.1 hb
   refine (hk h1).2.2.1 A.heap.size _ (World.alloc_heap_new A _) rfl fun hm => ?_
   have := (hM.lt A A.heap.size h.1 (h2 _ hm)).2
   omega
def Gives (n : Nat) (g : Nat) (lb : Array Value) (zs : List S.R) (n0 : Nat) (w : World) : Prop :=
 ∀ n1 Ok mine, Mine n0 n1 Ok mine → Ok w → SeqStopsK Fence.wide n Tryz.prog g lb encP (KpM Ok mine) (fun ys => ys = zs) (fun pre => pre <+: zs) zs.length w
end Go.Proofs.YtgngaldoemopjaaGreatDoor.U
namespace Go.Proofs.YtgngaldoemopjaaGreatDoor.U
open Go.RowKit Go.Shelf
def recOf (w : World) (tmps : Array Value) (ps : Array Tmp) (assign body : Code) (fn : FuncId) (st : LoopState) : Loop :=
 { state := st, pending := none, fn, tmps, params := ps, assign, body, defers := w.heap.size }
def enterW (w : World) (tmps : Array Value) (ps : Array Tmp) (assign body : Code) (fn : FuncId) : World :=
 (w.alloc (.deferred (some []))).alloc (.loop (recOf w tmps ps assign body fn .ready))
theorem enterW_rec (w : World) (tmps : Array Value) (ps : Array Tmp) (assign body : Code) (fn : FuncId) : (enterW w tmps ps assign body fn).heap[w.heap.size + 1]? = some (.loop (recOf w tmps ps assign body fn .ready)) := by
 have h := World.alloc_heap_new (w.alloc (.deferred (some []))) (.loop (recOf w tmps ps assign body fn .ready))
 rw [World.size_alloc] at h
 exact h
theorem enterW_def (w : World) (tmps : Array Value) (ps : Array Tmp) (assign body : Code) (fn : FuncId) : (enterW w tmps ps assign body fn).heap[w.heap.size]? = some (.deferred (some [])) :=
 (Below.heap_alloc _ _ _ (by simp)).trans (World.alloc_heap_new w _)
end Go.Proofs.YtgngaldoemopjaaGreatDoor.U
namespace Go.Proofs.YtgngaldoemopjaaGreatDoor.U
open Go.RowKit Go.Shelf
attribute [local go_sem] Oper.semAt_some
structure SV (Bn : Nat) (ao : Option Addr) (cap : Nat) (xs : List S.R) (W : World) : Prop where
 box : W.cell? ⟨Bn, 0, none⟩ = some (.slice ao xs.length cap)
 rd : RdR W ao xs
theorem SV.later {Bn : Nat} {ao : Option Addr} {cap : Nat} {xs : List S.R} {W W' : World} (h : SV Bn ao cap xs W) (hb : Below W.heap.size W W') : SV Bn ao cap xs W' :=
 ⟨cell_later hb h.box, h.rd.later hb⟩
theorem SV.under {Bn n0 : Nat} {ao : Option Addr} {cap : Nat} {xs : List S.R} {A B : World} (hn : Bn < n0) (hlo : Lo n0 ao xs.length) (h : SV Bn ao cap xs A) (hc : ∀ a v, a.block < n0 → A.cell? a = some v → B.cell? a = some v) : SV Bn ao cap xs B :=
 ⟨hc _ _ hn h.box, h.rd.under hlo hc⟩
set_option maxRecDepth 100000 in
set_option maxHeartbeats 2000000 in
theorem vals1_in (n : Nat) (hn : 1 ≤ n) (l Bn : Nat) (ao : Option Addr) (cap : Nat) (xs : List S.R) (hl : xs.length ≤ 1000000) (Kp : World → World → Prop) (Q : World → Prop) (hH : Hold Kp Q) (hQ : ∀ W, Q W → SV Bn ao cap xs W) (J Jx : List S.R → World → Prop)
   (W : World) (hJ : AbidesFrom W.heap.size J)
   (hY : ∀ pre x W1, J pre W1 → pre.length < xs.length → YieldAt Fence.wide (n - 1) Tryz.prog l (encP x) W1 fun e W' =>
     (e = .returned (.bool true) ∧ J (pre ++ [x]) W' ∧ Kp W1 W') ∨ (e = .returned (.bool false) ∧ Jx (pre ++ [x]) W'))
   (hS : Q W) (h0 : J [] W) :
   CallsIn Fence.wide n Tryz.prog 179 #[.func (.yield l) #[] #[], .pointer (some ⟨Bn, 0, none⟩)] W fun e W' => (∃ v, e = .returned v) ∧
     ((∃ ys, ys = xs ∧ J ys W') ∨ (∃ pre, pre <+: xs ∧ Jx pre W')) := by
 refine callsIn_of_wp Tryz.func179 rfl trivial ?_ rfl
 simp only [Tryz.ntmps179, List.size_toArray, List.length_cons, List.length_nil, Nat.reduceAdd, Nat.reduceSub, Array.replicate_succ, Array.replicate_zero, List.push_toArray, List.append_toArray, List.nil_append, List.cons_append]
 have hbox0 := (hQ _ hS).box
 gi_wp2
 gi_loopw [7] (fun p wr => ∃ k : Nat, p = .int .i64 (k : Int) ∧ k ≤ xs.length ∧ J (xs.take k) wr ∧ Q wr) (fun p _ => xs.length - (intOf p).toNat)
 case atStart => exact ⟨0, rfl, Nat.zero_le _, h0, hS⟩
 case round =>
   obtain ⟨k, rfl, hk, hJs, hSs⟩ := hrel
   by_cases hlt : k < xs.length
   · obtain ⟨b, off, rfl, hc1, hc2⟩ := (hQ _ hSs).rd k hlt
     have hT : xs.take k ++ [xs[k]] = xs.take (k + 1) := by rw [List.take_succ_eq_append_getElem hlt]
     have hpl : (xs.take k).length < xs.length := by rw [List.length_take]; omega
     have hnext : ∀ w2 : World, Below wr.heap.size wr w2 → ∃ fn tmps assign body, (Instr.yield l #[.agg #[.int .i32 xs[k].1, .int .i32 xs[k].2]]).run Tryz.prog w2 = .ok (.round l fn tmps assign body) w2 ∧
         RoundIn Fence.wide (n - 1) Tryz.prog l fn tmps assign body w2 (fun e W' => (e = .returned (.bool true) ∧ J (xs.take (k + 1)) W' ∧ Q W') ∨ (e = .returned (.bool false) ∧ Jx (xs.take (k + 1)) W')) := by
       intro w2 hb2
       have hJ2 : J (xs.take k) w2 := hJ _ wr w2 none hJs (grown_below hb2 none) (fun r e => by cases e)
       have hS2 := hH.grow _ _ hSs hb2
       obtain ⟨fn, tmps, assign, body, hy, hR⟩ := hY _ xs[k] w2 hJ2 hpl
       refine ⟨fn, tmps, assign, body, hy, hR.mono ?_⟩
       rw [hT]
       rintro e W' (⟨h1, h2, h3⟩ | h)
       · exact .inl ⟨h1, h2, hH.step _ _ hS2 h3⟩
       · exact .inr h
     obtain ⟨fn, tmps, assign, body, hy, hR⟩ := hnext _ (al1 wr (.cells #[.int .i32 xs[k].1, .int .i32 xs[k].2] 160))
     clear hY hJs hSs hS h0 hJ hnext hbox0 hH hQ
     generalize xs[k].1 = x1 at *
     generalize xs[k].2 = x2 at *
     gi_wp2
     refine hR.mono ?_
     rintro e W3 (⟨rfl, hJ3, hS3⟩ | ⟨rfl, hJx3⟩)
     · gi_wp2
       go_roundw
       case rel => exact ⟨k + 1, by go_num, by omega, hJ3, hS3⟩
       case measure => simp [intOf]; omega
     · gi_wp2
       refine bodyPost_ret (results_none rfl _ _ _) rfl ?_
       exact ⟨⟨_, rfl⟩, .inr ⟨_, List.take_prefix _ _, hJx3⟩⟩
   · obtain rfl : k = xs.length := by omega
     rw [List.take_length] at hJs
     gi_wp2
     go_end0
     exact ⟨⟨_, rfl⟩, .inl ⟨_, rfl, hJs⟩⟩
theorem vals_gives (n : Nat) (hn : 1 ≤ n) (Bn n0 : Nat) (ao : Option Addr) (cap : Nat) (xs : List S.R) (hl : xs.length ≤ 1000000) (w : World) (hS : SV Bn ao cap xs w) (hB : Bn < n0) (hlo : Lo n0 ao xs.length) :
   Gives n 179 #[.pointer (some ⟨Bn, 0, none⟩)] xs n0 w := fun _ Ok mine hM hOk l J Jx W hW hJ _ hY h0 =>
 vals1_in n hn l Bn ao cap xs hl (KpM Ok mine) (fun W => Ok W ∧ SV Bn ao cap xs W) (hold_of hM (fun _ _ h hb => h.later hb) (fun _ _ h hc => h.under hB hlo hc)) (fun _ h => h.2) J Jx W hJ hY ⟨(hM.grow w W hOk hW).1, hS.later hW⟩ h0
set_option maxHeartbeats 1000000 in
theorem values_any (ao : Option Addr) (len cap : Nat) (w : World) :
   Calls Tryz.prog 160 #[.slice ao len cap] w fun e w' => e = .returned (.func (.func 179) #[] #[.pointer (some ⟨w.heap.size, 0, none⟩)]) ∧ w' = w.alloc (.cells #[.slice ao len cap] 234) := by
 go_enter Tryz.func160, Tryz.ntmps160
 go_wp2
 go_ret
 exact ⟨rfl, rfl⟩
def Iter (v : Value) (zs : List S.R) (w : World) : Prop :=
 ∃ g lb, v = .func (.func g) #[] lb ∧ (∀ args w, (callFunc g args).run Tryz.prog w = .ok (.enter g args) w) ∧ ∀ n, 1 ≤ n → ∀ W, Below w.heap.size w W → Gives n g lb zs w.heap.size W
theorem values_gives (ao : Option Addr) (xs : List S.R) (cap : Nat) (hl : xs.length ≤ 1000000) (w : World) (hr : RdR w ao xs) :
   Calls Tryz.prog 160 #[.slice ao xs.length cap] w fun e w' => ∃ v, e = .returned v ∧ Iter v xs w' ∧ Below w.heap.size w w' := by
 refine (values_any ao xs.length cap w).mono ?_
 rintro e w' ⟨rfl, rfl⟩
 refine ⟨_, rfl, ⟨179, _, rfl, enters_of Tryz.func179 (by kernel_rfl) rfl, fun n hn W hW => ?_⟩, al1 w _⟩
 have hS : SV w.heap.size ao cap xs (w.alloc (.cells #[.slice ao xs.length cap] 234)) := ⟨(Boxed.new w 234 _).cell, hr.later (al1 w _)⟩
 exact vals_gives n hn w.heap.size _ ao cap xs hl W (hS.later hW) (by simp) (hr.lo.mono (by simp))
end Go.Proofs.YtgngaldoemopjaaGreatDoor.U
namespace Go.Proofs.YtgngaldoemopjaaGreatDoor.U
open Go.RowKit Go.Shelf
attribute [local go_sem] Oper.semAt_some
theorem cells_two {W : World} {k : Nat} {u v : Value} {t : TypeId} (h : W.heap[k]? = some (.cells #[u, v] t)) : W.cell? ⟨k, 0, none⟩ = some u ∧ W.cell? ⟨k, 1, none⟩ = some v := by
 simp [World.cell?, h]
end Go.Proofs.YtgngaldoemopjaaGreatDoor.U
namespace Go.Proofs.YtgngaldoemopjaaGreatDoor.U
open Go.RowKit Go.Shelf
attribute [local go_sem] Oper.semAt_some
abbrev L3 := Option Addr × Nat × List S.R
def flat (ls : List L3) : List S.R := ls.flatMap fun p => p.2.2
theorem flat_take (ls : List L3) (k : Nat) (h : k < ls.length) : flat (ls.take (k + 1)) = flat (ls.take k) ++ ls[k].2.2 := by
 rw [List.take_succ_eq_append_getElem h]
 unfold flat
 simp only [List.flatMap_append, List.flatMap_cons, List.flatMap_nil, List.append_nil]
theorem flat_split (ls : List L3) (k : Nat) (h : k < ls.length) : flat ls = flat (ls.take k) ++ (ls[k].2.2 ++ flat (ls.drop (k + 1))) := by
 have e : ls = ls.take k ++ ls.drop k := (List.take_append_drop k ls).symm
 rw [List.drop_eq_getElem_cons h] at e
 have e2 : flat ls = flat (ls.take k ++ ls[k] :: ls.drop (k + 1)) := by rw [← e]
 rw [e2]
 unfold flat
 rw [List.flatMap_append, List.flatMap_cons]
structure SL (Bn b off cap : Nat) (ls : List L3) (W : World) : Prop where
 box : W.cell? ⟨Bn, 0, none⟩ = some (.slice (some ⟨b, off, none⟩) ls.length cap)
 cells : ∀ i (h : i < ls.length), W.cell? ⟨b, off + i, none⟩ = some (.slice ls[i].1 ls[i].2.2.length ls[i].2.1)
 rd : ∀ p ∈ ls, RdR W p.1 p.2.2
theorem SL.later {Bn b off cap : Nat} {ls : List L3} {W W' : World} (h : SL Bn b off cap ls W) (hb : Below W.heap.size W W') : SL Bn b off cap ls W' :=
 ⟨cell_later hb h.box, fun i hi => cell_later hb (h.cells i hi), fun p hp => (h.rd p hp).later hb⟩
theorem SL.under {Bn b off cap n0 : Nat} {ls : List L3} {A B : World} (hn : Bn < n0) (hb : b < n0) (hlo : ∀ p ∈ ls, Lo n0 p.1 p.2.2.length) (h : SL Bn b off cap ls A) (hc : ∀ a v, a.block < n0 → A.cell? a = some v → B.cell? a = some v) : SL Bn b off cap ls B :=
 ⟨hc _ _ hn h.box, fun i hi => hc _ _ hb (h.cells i hi), fun p hp => (h.rd p hp).under (hlo p hp) hc⟩
set_option maxRecDepth 100000 in
set_option maxHeartbeats 4000000 in
theorem good1_in (n : Nat) (hn : 1 ≤ n) (l Bn b off cap : Nat) (ls : List L3) (hl : ls.length ≤ 1000) (hl2 : ∀ p ∈ ls, p.2.2.length ≤ 1000000) (Kp : World → World → Prop) (Q : World → Prop) (hH : Hold Kp Q) (hQ : ∀ W, Q W → SL Bn b off cap ls W) (J Jx : List S.R → World → Prop)
   (W : World) (hJ : AbidesFrom W.heap.size J)
   (hY : ∀ pre x W1, J pre W1 → pre.length < (S.goods (flat ls)).length → YieldAt Fence.wide (n - 1) Tryz.prog l (encP x) W1 fun e W' =>
     (e = .returned (.bool true) ∧ J (pre ++ [x]) W' ∧ Kp W1 W') ∨ (e = .returned (.bool false) ∧ Jx (pre ++ [x]) W'))
   (hS : Q W) (h0 : J [] W) :
   CallsIn Fence.wide n Tryz.prog 105 #[.func (.yield l) #[] #[], .pointer (some ⟨Bn, 0, none⟩)] W fun e W' => (∃ v, e = .returned v) ∧
     ((∃ ys, ys = S.goods (flat ls) ∧ J ys W') ∨ (∃ pre, pre <+: S.goods (flat ls) ∧ Jx pre W')) := by
 refine callsIn_of_wp Tryz.func105 rfl trivial ?_ rfl
 simp only [Tryz.ntmps105, List.size_toArray, List.length_cons, List.length_nil, Nat.reduceAdd, Nat.reduceSub, Array.replicate_succ, Array.replicate_zero, List.push_toArray, List.append_toArray, List.nil_append, List.cons_append]
 have hbox0 := (hQ _ hS).box
 gi_wp2
 clear hbox0
 have hround : ∀ (pre : List S.R) (x : S.R) (post : List S.R) (w1 w2 : World), Hid (flat ls = pre ++ (x :: post)) → S.good x = true → J (S.goods pre) w1 → Q w1 → Below w1.heap.size w1 w2 → ∃ fn tmps assign body, (Instr.yield l #[.agg #[.int .i32 x.1, .int .i32 x.2]]).run Tryz.prog w2 = .ok (.round l fn tmps assign body) w2 ∧
     RoundIn Fence.wide (n - 1) Tryz.prog l fn tmps assign body w2 (fun e W' => (e = .returned (.bool true) ∧ J (S.goods (pre ++ [x])) W' ∧ Q W') ∨ (e = .returned (.bool false) ∧ ∃ pre, pre <+: S.goods (flat ls) ∧ Jx pre W')) := by
   intro pre x post w1 w2 HP hgx hJ1 hS1 hb2
   have hJ2 : J (S.goods pre) _ := hJ _ w1 _ none hJ1 (grown_below hb2 none) (fun r e => by cases e)
   have hS2 := hH.grow _ _ hS1 hb2
   have e1 : S.goods (flat ls) = S.goods pre ++ (x :: S.goods post) := by rw [HP.out]; simp [S.goods, hgx]
   have e2 : S.goods (pre ++ [x]) = S.goods pre ++ [x] := by simp [S.goods, hgx]
   obtain ⟨fn, tmps, assign, body, hy, hR⟩ := hY _ x _ hJ2 (by rw [e1]; simp)
   refine ⟨fn, tmps, assign, body, hy, hR.mono ?_⟩
   rw [e2]
   rintro e W' (⟨h1, h2, h3⟩ | ⟨h1, h2⟩)
   · exact .inl ⟨h1, h2, hH.step _ _ hS2 h3⟩
   · exact .inr ⟨h1, _, ⟨S.goods post, by rw [e1]; simp⟩, h2⟩
 clear hY
 gi_loopw [9] (fun p wr => ∃ k : Nat, p = .int .i64 (k : Int) ∧ k ≤ ls.length ∧ J (S.goods (flat (ls.take k))) wr ∧ Q wr) (fun p _ => ls.length - (intOf p).toNat)
 case atStart => exact ⟨0, rfl, Nat.zero_le _, h0, hS⟩
 case round =>
   obtain ⟨k, rfl, hk, hJs, hSs⟩ := hrel
   by_cases hlt : k < ls.length
   · have hcell := (hQ _ hSs).cells k hlt
     have hxl := hl2 _ (List.getElem_mem hlt)
     have HF := hide (flat_split ls k hlt)
     have HT := hide (flat_take ls k hlt)
     have hrdk : ∀ W, Q W → RdR W ls[k].1 ls[k].2.2 := fun W h => (hQ W h).rd _ (List.getElem_mem hlt)
     generalize ls[k] = p at *
     obtain ⟨ao, cp, xs⟩ := p
     simp only at hcell hxl HF HT hrdk
     clear hQ
     gi_wp2
     gi_loopw [15] (fun p wr => ∃ j : Nat, p = .int .i64 (j : Int) ∧ j ≤ xs.length ∧ J (S.goods (flat (ls.take k) ++ xs.take j)) wr ∧ Q wr) (fun p _ => xs.length - (intOf p).toNat)
     case atStart => exact ⟨0, rfl, Nat.zero_le _, by rw [List.take_zero, List.append_nil]; exact hJs, hSs⟩
     case round =>
       obtain ⟨j, rfl, hj, hJt, hSt⟩ := hrel
       by_cases hjt : j < xs.length
       · obtain ⟨b2, off2, rfl, hc1, hc2⟩ := hrdk _ hSt j hjt
         have HF2 : Hid (flat ls = (flat (ls.take k) ++ xs.take j) ++ (xs[j] :: (xs.drop (j + 1) ++ flat (ls.drop (k + 1))))) := by
           show _ = _
           have e : xs = xs.take j ++ xs[j] :: xs.drop (j + 1) := by rw [← List.drop_eq_getElem_cons hjt, List.take_append_drop]
           rw [HF.out, List.append_assoc]
           congr 1
           conv => lhs; rw [e]
           rw [List.append_assoc]
           rfl
         have HT2 : Hid (xs.take (j + 1) = xs.take j ++ [xs[j]]) := List.take_succ_eq_append_getElem hjt
         have hb1 := al1 wr (.cells #[.int .i32 xs[j].1, .int .i32 xs[j].2] 140)
         have hx0 := cells_two (World.alloc_heap_new wr (.cells #[.int .i32 xs[j].1, .int .i32 xs[j].2] 140))
         have hnext : S.good xs[j] = true → ∀ w2, Below wr.heap.size wr w2 → _ := fun hg w2 hb => hround _ xs[j] _ wr w2 HF2 hg hJt hSt hb
         rw [List.append_assoc, ← HT2.out] at hnext
         have hJg : S.good xs[j] = false → ∀ w2, Below wr.heap.size wr w2 → J (S.goods (flat (ls.take k) ++ xs.take (j + 1))) w2 ∧ Q w2 := fun hg w2 hb => by
           rw [HT2.out, ← List.append_assoc, S.goods_append, show S.goods [xs[j]] = [] by simp [S.goods, hg], List.append_nil]
           exact ⟨hJ _ wr _ none hJt (grown_below hb none) (fun r e => by cases e), hH.grow _ _ hSt hb⟩
         have hgood := isGood_any xs[j].1 xs[j].2
         rw [show (xs[j].1, xs[j].2) = xs[j] from rfl] at hgood
         generalize S.good xs[j] = gx at *
         generalize xs[j].1 = x1 at *
         generalize xs[j].2 = x2 at *
         clear HF HT HF2 HT2 hround hrdk hS h0 hJ hH hJs hSs hJt hSt
         cases gx with
         | true =>
           replace hnext := hnext rfl
           clear hJg
           gi_wp2_with (first
             | (refine ⟨trivial, ?_⟩; gi_at_call 106; refine (callsIn_wide.2 (hgood _)).mono ?_; clear hgood; rintro e w2 ⟨rfl, hb2⟩; have hx1 := cell_later hb2 hx0.1; have hx2 := cell_later hb2 hx0.2)
             | (refine ⟨trivial, ?_⟩; gi_at_call 107; refine (callsIn_wide.2 (spanOf_any x1 x2 _)).mono ?_; rintro e w3 ⟨rfl, hb3⟩; obtain ⟨fn, tmps, assign, body, hy, hR⟩ := hnext w3 (nx (nx hb1 hb2) hb3)))
           refine hR.mono ?_
           rintro e W4 (⟨rfl, hJ4, hS4⟩ | ⟨rfl, hJx4⟩)
           · gi_wp2
             go_roundw
             case rel => exact ⟨j + 1, by go_num, by omega, hJ4, hS4⟩
             case measure => simp [intOf]; omega
           · gi_wp2
             refine bodyPost_ret (results_none rfl _ _ _) rfl ?_
             exact ⟨⟨_, rfl⟩, .inr hJx4⟩
         | false =>
           replace hJg := hJg rfl
           clear hnext
           gi_wp2_with (refine ⟨trivial, ?_⟩; gi_at_call 106; refine (callsIn_wide.2 (hgood _)).mono ?_; clear hgood; rintro e w2 ⟨rfl, hb2⟩)
           refine ⟨trivial, ?_⟩
           gi_wp2
           refine ⟨fun _ h => (by cases h), ?_⟩
           gi_wp2
           go_roundw
           case rel => exact ⟨j + 1, by go_num, by omega, hJg _ (nx hb1 hb2)⟩
           case measure => simp [intOf]; omega
       · obtain rfl : j = xs.length := by omega
         rw [List.take_length, ← HT.out] at hJt
         clear HF HT hround hrdk hS h0 hJ hH hJs hSs
         gi_wp2
         go_roundw
         case rel => exact ⟨k + 1, by go_num, by omega, hJt, hSt⟩
         case measure => simp [intOf]; omega
   · obtain rfl : k = ls.length := by omega
     rw [List.take_length] at hJs
     clear hround hS h0 hJ hQ hH hSs
     gi_wp2
     go_end0
     exact ⟨⟨_, rfl⟩, .inl ⟨_, rfl, hJs⟩⟩
theorem good_gives (n : Nat) (hn : 1 ≤ n) (Bn b off cap n0 : Nat) (ls : List L3) (hl : ls.length ≤ 1000) (hl2 : ∀ p ∈ ls, p.2.2.length ≤ 1000000) (w : World) (hS : SL Bn b off cap ls w) (hB : Bn < n0) (hb : b < n0) (hlo : ∀ p ∈ ls, Lo n0 p.1 p.2.2.length) :
   Gives n 105 #[.pointer (some ⟨Bn, 0, none⟩)] (S.goods (flat ls)) n0 w := fun _ Ok mine hM hOk l J Jx W hW hJ _ hY h0 =>
 good1_in n hn l Bn b off cap ls hl hl2 (KpM Ok mine) (fun W => Ok W ∧ SL Bn b off cap ls W) (hold_of hM (fun _ _ h hb => h.later hb) (fun _ _ h hc => h.under hB hb hlo hc)) (fun _ h => h.2) J Jx W hJ hY ⟨(hM.grow w W hOk hW).1, hS.later hW⟩ h0
set_option maxHeartbeats 1000000 in
theorem goodMake_any (ao : Option Addr) (len cap : Nat) (w : World) :
   Calls Tryz.prog 80 #[.slice ao len cap] w fun e w' => e = .returned (.func (.func 105) #[] #[.pointer (some ⟨w.heap.size, 0, none⟩)]) ∧ w' = w.alloc (.cells #[.slice ao len cap] 93) := by
 go_enter Tryz.func80, Tryz.ntmps80
 go_wp2
 go_ret
 exact ⟨rfl, rfl⟩
structure RdL (w : World) (b off : Nat) (ls : List L3) : Prop where
 cells : ∀ i (h : i < ls.length), w.cell? ⟨b, off + i, none⟩ = some (.slice ls[i].1 ls[i].2.2.length ls[i].2.1)
 rd : ∀ p ∈ ls, RdR w p.1 p.2.2
 lt : b < w.heap.size
theorem RdL.later {w w' : World} {b off : Nat} {ls : List L3} (h : RdL w b off ls) (hb : Below w.heap.size w w') : RdL w' b off ls :=
 ⟨fun i hi => cell_later hb (h.cells i hi), fun p hp => (h.rd p hp).later hb, Nat.lt_of_lt_of_le h.lt hb.size⟩
theorem goodSpans_gives (b off cap : Nat) (ls : List L3) (hl : ls.length ≤ 1000) (hl2 : ∀ p ∈ ls, p.2.2.length ≤ 1000000) (w : World) (hr : RdL w b off ls) :
   Calls Tryz.prog 80 #[.slice (some ⟨b, off, none⟩) ls.length cap] w fun e w' => ∃ v, e = .returned v ∧ Iter v (S.goods (flat ls)) w' ∧ Below w.heap.size w w' := by
 refine (goodMake_any _ ls.length cap w).mono ?_
 rintro e w' ⟨rfl, rfl⟩
 refine ⟨_, rfl, ⟨105, _, rfl, enters_of Tryz.func105 (by kernel_rfl) rfl, fun n hn W hW => ?_⟩, al1 w _⟩
 have h2 := hr.later (al1 w (.cells #[.slice (some ⟨b, off, none⟩) ls.length cap] 93))
 have hS : SL w.heap.size b off cap ls (w.alloc (.cells #[.slice (some ⟨b, off, none⟩) ls.length cap] 93)) := ⟨(Boxed.new w 93 _).cell, h2.cells, h2.rd⟩
 exact good_gives n hn _ b off cap _ ls hl hl2 W (hS.later hW) (by simp) h2.lt (fun p hp => (h2.rd p hp).lo)
end Go.Proofs.YtgngaldoemopjaaGreatDoor.U
namespace Go.Proofs.YtgngaldoemopjaaGreatDoor.U
open Go.RowKit Go.Shelf
attribute [local go_sem] Oper.semAt_some
def okB (n0 Bx : Nat) (t : TypeId) (W : World) : Prop := ∃ v, Boxed W Bx t v ∧ ∀ g, v.ownBlock = some g → n0 ≤ g ∧ g < W.heap.size
def mineB (Bx : Nat) (W : World) (k : Nat) : Prop := k = Bx ∨ ∃ v, W.cell? ⟨Bx, 0, none⟩ = some v ∧ v.ownBlock = some k
theorem mine_box (n0 n1 Bx : Nat) (t : TypeId) (h0 : n0 ≤ Bx) (h1 : Bx < n1) : Mine n0 n1 (okB n0 Bx t) (mineB Bx) where
 lt A k h hm := by
   obtain ⟨v, hv, hg⟩ := h
   rcases hm with rfl | ⟨v', hc, hb⟩
   · exact ⟨h0, hv.lt⟩
   · rw [hv.cell] at hc
     cases hc
     exact hg k hb
 grow A B h hb := by
   obtain ⟨v, hv, hg⟩ := h
   have hc : B.heap[Bx]? = A.heap[Bx]? := hb.block Bx hv.lt
   refine ⟨⟨v, hc.trans hv, fun g e => ⟨(hg g e).1, Nat.lt_of_lt_of_le (hg g e).2 hb.size⟩⟩, fun k hm => ?_⟩
   rcases hm with rfl | ⟨v', hc', hb'⟩
   · exact .inl rfl
   · exact .inr ⟨v', by rw [← World.cell?_of_block (w := A) (a := ⟨Bx, 0, none⟩) hc]; exact hc', hb'⟩
 turn A l o o' h hl ho hoc := by
   obtain ⟨v, hv, hg⟩ := h
   have hc : (A.putObj l o').heap[Bx]? = A.heap[Bx]? := (grownBy_putObj' A l o').block Bx hv.lt (by simp; omega)
   refine ⟨⟨v, hc.trans hv, fun g e => ⟨(hg g e).1, by simp [World.putObj]; exact (hg g e).2⟩⟩, fun k hm => ?_⟩
   rcases hm with rfl | ⟨v', hc', hb'⟩
   · exact .inl rfl
   · exact .inr ⟨v', by rw [← World.cell?_of_block (w := A) (a := ⟨Bx, 0, none⟩) hc]; exact hc', hb'⟩
theorem kpM_appended {W w1 : World} {n0 n₀ B : Nat} {t e : TypeId} {size : Nat} {v v' : Value} {k m : Nat} {xs ys : List Value} {tmp : Obj} (hv : Boxed W B t v) (hte : t ≠ e) (hrow : W.ownsRow n₀ e size v k xs) (hn : n0 ≤ n₀)
   (hown' : w1.ownsRow n₀ e size v' m ys) (hgrow : (W.alloc tmp).grownBy w1 v.ownBlock) (hat : v'.ownBlock = v.ownBlock ∨ v'.ownBlock = some (W.alloc tmp).heap.size) :
   KpM (okB n0 B t) (mineB B) W (w1.setCell ⟨B, 0, none⟩ v') := by
 rintro -
 have hv1 : Boxed w1 B t v := (hv.alloc tmp).kept hgrow (hv.not_row hte hrow)
 have hv2 := hv1.set v'
 have hs1 : W.heap.size ≤ w1.heap.size := Nat.le_trans (by simp) hgrow.size
 have hs2 : w1.heap.size ≤ (w1.setCell ⟨B, 0, none⟩ v').heap.size := (grownBy_setCell' w1 B v').size
 refine ⟨⟨v', hv2, fun g hg => ?_⟩, Nat.le_trans hs1 hs2, fun j o hj ho hm => ?_, fun j hm => ?_⟩
 · rcases hown'.2 with ⟨rfl, _⟩ | ⟨g', cap, cur, rfl, hb, hgb, _⟩
   · simp [Value.ownBlock] at hg
   · obtain rfl : g' = g := by simpa [Value.ownBlock] using hg
     exact ⟨Nat.le_trans hn hb, Nat.lt_of_lt_of_le (Array.getElem?_eq_some_iff.1 hgb).1 hs2⟩
 · have hlt : j < W.heap.size := (Array.getElem?_eq_some_iff.1 hj).1
   have hne : j ≠ B := fun e => hm (.inl e)
   have hne2 : some j ≠ v.ownBlock := fun e => hm (.inr ⟨v, hv.cell, e.symm⟩)
   rw [(grownBy_setCell' w1 B v').block j (Nat.lt_of_lt_of_le hlt hs1) (by simpa using hne), hgrow.block j (by simp; omega) hne2, Below.heap_alloc W tmp j hlt]
   exact hj
 · rcases hm with rfl | ⟨u, hc, hb⟩
   · exact .inl (.inl rfl)
   · rw [hv2.cell] at hc
     cases hc
     rcases hat with e | e
     · exact .inl (.inr ⟨v, hv.cell, by rw [← e]; exact hb⟩)
     · rw [hb] at e
       simp at e
       exact .inr (by omega)
theorem kpM_below {n0 n1 : Nat} {Ok : World → Prop} {mine : World → Nat → Prop} (hM : Mine n0 n1 Ok mine) {A B : World} (hb : Below A.heap.size A B) : KpM Ok mine A B := by
 intro hA
 obtain ⟨h1, h2⟩ := hM.grow A B hA hb
 exact ⟨h1, hb.size, fun k o hk _ _ => (hb.block k (Array.getElem?_eq_some_iff.1 hk).1).trans hk, fun k hk => .inl (h2 k hk)⟩
theorem cells_two_new (w : World) (x y : Value) (t : TypeId) : ∀ j u, [x, y][j]? = some u → (w.alloc (.cells #[x, y] t)).cell? ((⟨w.heap.size, 0, none⟩ : Addr).add j) = some u := by
 intro j u hj
 rw [Addr.add_mid]
 have h := cells_two (World.alloc_heap_new w (.cells #[x, y] t))
 match j, hj with
 | 0, hj => simp at hj; subst hj; exact h.1
 | 1, hj => simp at hj; subst hj; exact h.2
 | j + 2, hj => simp at hj
set_option maxRecDepth 100000 in
set_option maxHeartbeats 4000000 in
theorem appendSeq_any (v0 : Value) (zs : List S.R) (hl : zs.length ≤ 1000000) (wi w : World) (hit : Iter v0 zs wi) (hwi : Below wi.heap.size wi w) :
   Calls Tryz.prog 230 #[.slice none 0 0, v0] w fun e W' => ∃ u, e = .returned u ∧ OwnR W' w.heap.size 160 u zs ∧ Below w.heap.size w W' := by
 obtain ⟨i0, hi, hz0, hz1, hz2⟩ := info_parts2 info108
 obtain ⟨gf, lb, rfl, heg, hgives⟩ := hit
 refine (callsIn_wide (n := 5)).1 ?_
 refine callsIn_of_wp_marks Tryz.func230 rfl trivial ?_ rfl
 simp only [Tryz.ntmps230, List.size_toArray, List.length_cons, List.length_nil, Nat.reduceAdd, Nat.reduceSub, Array.replicate_succ, Array.replicate_zero, List.push_toArray, List.append_toArray, List.nil_append, List.cons_append]
 gi_wp2
 have bP := Boxed.new w 233 (.slice none 0 0)
 have hB0 := al1 w (.cells #[.slice none 0 0] 233)
 have hsz : (w.alloc (.cells #[.slice none 0 0] 233)).heap.size = w.heap.size + 1 := by simp
 obtain ⟨W0, hW0⟩ : ∃ W0, w.alloc (.cells #[.slice none 0 0] 233) = W0 := ⟨_, rfl⟩
 rw [hW0] at bP hB0 hsz ⊢
 clear hW0
 have hM := mine_box wi.heap.size W0.heap.size w.heap.size 233 hwi.size (by omega)
 have hok0 : okB wi.heap.size w.heap.size 233 W0 := ⟨_, bP, fun g hg => by simp [Value.ownBlock] at hg⟩
 refine wpIn_rangeFunc_ownH rfl (by omega) (gf := gf) (lb := lb) rfl trivial heg (hgives 4 (by omega) W0 (hwi.trans (hB0.mono hwi.size)) _ _ _ hM hok0) kpM_t (kpM_b hM) (Below.refl _ _) (fun _ => rfl)
   (fun pre W => (∃ v, Boxed W w.heap.size 233 v ∧ W.ownsRow w.heap.size 160 2 v pre.length (cR pre) ∧ True) ∧ Below w.heap.size w W)
   (fun _ _ _ => False)
   (OwnFrom.and (Own.from (holdsRow_own w.heap.size w.heap.size 233 160 2 (fun pre => pre.length) (fun pre => cR pre) (fun _ _ => True)) _) (ownFrom_below (Nat.le_refl _) (by omega)))
   (fun _ _ _ _ _ hs _ _ => hs)
   ⟨⟨_, bP, World.ownsRow_nil _ _ _ _, trivial⟩, hB0⟩
   (fun x a' W => ∃ Bx, w.heap.size < Bx ∧ W.heap[Bx]? = some (.cells #[.int .i32 x.1, .int .i32 x.2] 160 (0, 0)) ∧ a' = { tmps := #[.slice none 0 0, .func (.func gf) #[] lb, .pointer (some ⟨w.heap.size, 0, none⟩), undef, .slice none 0 0, .pointer (some ⟨Bx, 0, none⟩), .func (.func gf) #[] lb, .agg #[.int .i32 x.1, .int .i32 x.2], undef, undef, undef, undef, undef], defers := [] })
   (fun x a' _ X Y row hs hg hr => by
     obtain ⟨Bx, h1, h2, h3⟩ := hs
     exact ⟨Bx, h1, (grownBy_keeps_cells hg (fun r e => (hr r e).2) h2 rfl).trans h2, h3⟩)
   ?assign ?body ?done ?stop
 case assign =>
   rintro l pre x W K ⟨⟨v, bP1, rP1, _⟩, hB1⟩ hK
   simp only [encP]
   gi_wp2
   exact hK _ _ ((KeepsOthers.alloc _ _).from _) (kpM_below hM (al1 W _)) ⟨⟨v, bP1.alloc _, rP1.alloc _, trivial⟩, hB1.alloc hB1.size _⟩ ⟨W.heap.size, bP1.lt, World.alloc_heap_new W _, rfl⟩
 case body =>
   rintro l pre x a' W hl ⟨r, hr⟩ ⟨⟨v, bP1, rP1, _⟩, hB1⟩ ⟨Bx, hBx, bX, rfl⟩ hlt
   have cP := bP1.cell
   obtain ⟨cX0, cX1⟩ := cells_two bX
   gi_wp2_with (gi_at_builtin; refine wpListIn_append_own_at _ rfl _ _ 233 rfl w.heap.size 160 i0 (.agg #[.int .i32 0, .int .i32 0]) 2 8 Tryz.underlying233 hi hz0 hz1 hz2 rfl (by decide) _ _ _ rfl (rP1.alloc _) ⟨W.heap.size, 0, none⟩ 1 1 [.int .i32 x.1, .int .i32 x.2] rfl rfl (cells_two_new _ _ _ _) (by simp [Value.oneCell']) (by unfold maxLen; omega) (by omega) (by have := hB1.size; simp; omega) ?_; intro v' w1 hown' hgrow _ hat; obtain ⟨g', cap', rfl⟩ := ownsRow_succ hown'; obtain ⟨hv1, hv2, hr2, hk2, hb2⟩ := bP1.appended (by decide) rP1 hB1.size (Nat.le_refl _) hown' hgrow; have hKp := kpM_appended (n0 := wi.heap.size) bP1 (by decide) rP1 hwi.size hown' hgrow hat; have hc1 := hv1.cell; have hf1 := hv1.frozen; clear cP cX0 cX1)
   refine ⟨hk2.from _, hKp, ⟨_, hv2, ?_, trivial⟩, hB1.trans hb2⟩
   rw [cR_append, List.length_append]
   exact hr2
 case done =>
   rintro D ys W hD rfl ⟨⟨v, bP1, rP1, _⟩, hB1⟩ hK
   have c1 := bP1.cell
   gi_wp2
   refine ⟨by simp, .inl ⟨_, _, rfl, run_takeDeferred hK, ?_⟩⟩
   exact ⟨_, results_tmp rfl _ _ _, v, rfl, ownsRow_putObj rP1 _ hK rfl, hB1.trans (belowK_b (w := w) (Nat.le_refl _) _ D _ _ (by omega) hK rfl rfl)⟩
 case stop =>
   rintro D c pre W _ _ h _
   exact h.elim
set_option maxHeartbeats 1000000 in
theorem collect_any (v0 : Value) (zs : List S.R) (hl : zs.length ≤ 1000000) (w : World) (hit : Iter v0 zs w) :
   Calls Tryz.prog 215 #[v0] w fun e W' => ∃ u, e = .returned u ∧ OwnR W' w.heap.size 160 u zs ∧ Below w.heap.size w W' := by
 have h := appendSeq_any v0 zs hl w w hit (Below.refl _ _)
 obtain ⟨gf, lb, rfl, _, _⟩ := hit
 go_enter Tryz.func215, Tryz.ntmps215
 go_wp2_with (go_at_call 230; refine h.mono ?_; rintro e W' ⟨u, rfl, ho, hb⟩)
 go_ret
 exact ⟨_, rfl, ho, hb⟩
set_option maxRecDepth 100000 in
set_option maxHeartbeats 4000000 in
theorem listOf_any (v0 : Value) (zs : List S.R) (hl : zs.length ≤ 1000000) (wi w : World) (hit : Iter v0 zs wi) (hwi : Below wi.heap.size wi w) :
   Calls Tryz.prog 159 #[v0] w fun e W' => ∃ u, e = .returned u ∧ OwnR W' w.heap.size 140 u zs ∧ Below w.heap.size w W' := by
 obtain ⟨i0, hi, hz0, hz1, hz2⟩ := info_parts2 info61
 obtain ⟨gf, lb, rfl, heg, hgives⟩ := hit
 refine (callsIn_wide (n := 5)).1 ?_
 refine callsIn_of_wp_marks Tryz.func159 rfl trivial ?_ rfl
 simp only [Tryz.ntmps159, List.size_toArray, List.length_cons, List.length_nil, Nat.reduceAdd, Nat.reduceSub, Array.replicate_succ, Array.replicate_zero, List.push_toArray, List.append_toArray, List.nil_append, List.cons_append]
 gi_wp2
 have bP := Boxed.new w 22 (.slice none 0 0)
 have hB0 := al1 w (.cells #[.slice none 0 0] 22)
 have hsz : (w.alloc (.cells #[.slice none 0 0] 22)).heap.size = w.heap.size + 1 := by simp
 obtain ⟨W0, hW0⟩ : ∃ W0, w.alloc (.cells #[.slice none 0 0] 22) = W0 := ⟨_, rfl⟩
 rw [hW0] at bP hB0 hsz ⊢
 clear hW0
 have hM := mine_box wi.heap.size W0.heap.size w.heap.size 22 hwi.size (by omega)
 have hok0 : okB wi.heap.size w.heap.size 22 W0 := ⟨_, bP, fun g hg => by simp [Value.ownBlock] at hg⟩
 refine wpIn_rangeFunc_ownH rfl (by omega) (gf := gf) (lb := lb) rfl trivial heg (hgives 4 (by omega) W0 (hwi.trans (hB0.mono hwi.size)) _ _ _ hM hok0) kpM_t (kpM_b hM) (Below.refl _ _) (fun _ => rfl)
   (fun pre W => (∃ v, Boxed W w.heap.size 22 v ∧ W.ownsRow w.heap.size 140 2 v pre.length (cR pre) ∧ True) ∧ Below w.heap.size w W)
   (fun _ _ _ => False)
   (OwnFrom.and (Own.from (holdsRow_own w.heap.size w.heap.size 22 140 2 (fun pre => pre.length) (fun pre => cR pre) (fun _ _ => True)) _) (ownFrom_below (Nat.le_refl _) (by omega)))
   (fun _ _ _ _ _ hs _ _ => hs)
   ⟨⟨_, bP, World.ownsRow_nil _ _ _ _, trivial⟩, hB0⟩
   (fun x a' W => ∃ Bx, w.heap.size < Bx ∧ W.heap[Bx]? = some (.cells #[.int .i32 x.1, .int .i32 x.2] 160 (0, 0)) ∧ a' = { tmps := #[.func (.func gf) #[] lb, undef, .slice none 0 0, .pointer (some ⟨w.heap.size, 0, none⟩), .pointer (some ⟨Bx, 0, none⟩), .func (.func gf) #[] lb, .agg #[.int .i32 x.1, .int .i32 x.2], undef, undef, undef, undef, undef, undef, undef, undef, undef], defers := [] })
   (fun x a' _ X Y row hs hg hr => by
     obtain ⟨Bx, h1, h2, h3⟩ := hs
     exact ⟨Bx, h1, (grownBy_keeps_cells hg (fun r e => (hr r e).2) h2 rfl).trans h2, h3⟩)
   ?assign ?body ?done ?stop
 case assign =>
   rintro l pre x W K ⟨⟨v, bP1, rP1, _⟩, hB1⟩ hK
   simp only [encP]
   gi_wp2
   exact hK _ _ ((KeepsOthers.alloc _ _).from _) (kpM_below hM (al1 W _)) ⟨⟨v, bP1.alloc _, rP1.alloc _, trivial⟩, hB1.alloc hB1.size _⟩ ⟨W.heap.size, bP1.lt, World.alloc_heap_new W _, rfl⟩
 case body =>
   rintro l pre x a' W hl ⟨r, hr⟩ ⟨⟨v, bP1, rP1, _⟩, hB1⟩ ⟨Bx, hBx, bX, rfl⟩ hlt
   have cP := bP1.cell
   obtain ⟨cX0, cX1⟩ := cells_two bX
   gi_wp2_with (gi_at_builtin; refine wpListIn_append_own_at _ rfl _ _ 22 rfl w.heap.size 140 i0 (.agg #[.int .i32 0, .int .i32 0]) 2 8 Tryz.underlying22 hi hz0 hz1 hz2 rfl (by decide) _ _ _ rfl (rP1.alloc _) ⟨W.heap.size, 0, none⟩ 1 1 [.int .i32 x.1, .int .i32 x.2] rfl rfl (cells_two_new _ _ _ _) (by simp [Value.oneCell']) (by unfold maxLen; omega) (by omega) (by have := hB1.size; simp; omega) ?_; intro v' w1 hown' hgrow _ hat; obtain ⟨g', cap', rfl⟩ := ownsRow_succ hown'; obtain ⟨hv1, hv2, hr2, hk2, hb2⟩ := bP1.appended (by decide) rP1 hB1.size (Nat.le_refl _) hown' hgrow; have hKp := kpM_appended (n0 := wi.heap.size) bP1 (by decide) rP1 hwi.size hown' hgrow hat; have hc1 := hv1.cell; have hf1 := hv1.frozen; clear cP cX0 cX1)
   refine ⟨hk2.from _, hKp, ⟨_, hv2, ?_, trivial⟩, hB1.trans hb2⟩
   rw [cR_append, List.length_append]
   exact hr2
 case done =>
   rintro D ys W hD rfl ⟨⟨v, bP1, rP1, _⟩, hB1⟩ hK
   have c1 := bP1.cell
   gi_wp2
   refine ⟨by simp, .inl ⟨_, _, rfl, run_takeDeferred hK, ?_⟩⟩
   exact ⟨_, results_tmp rfl _ _ _, v, rfl, ownsRow_putObj rP1 _ hK rfl, hB1.trans (belowK_b (w := w) (Nat.le_refl _) _ D _ _ (by omega) hK rfl rfl)⟩
 case stop =>
   rintro D c pre W _ _ h _
   exact h.elim
end Go.Proofs.YtgngaldoemopjaaGreatDoor.U
namespace Go.Proofs.YtgngaldoemopjaaGreatDoor.U
open Go.RowKit Go.Shelf
theorem Reg.ix {P : Program} {w : World} {ρ : Operand → Value} {o : Oper} {t : TypeId} {x y : Operand} {b off len cap k s : Nat} {q : IntKind} (hop : o.op = .indexAddr t x y) (hx : ρ x = .slice (some ⟨b, off, none⟩) len cap) (hy : ρ y = .int q (k : Int)) (hk : k < len)
   (ht : P.underlying t = some (.slice (P.elem t))) (hs : (sizeOf (P.elem t)).run P w = .ok s w) : (execOp ρ o).run P w = .ok (.value (.pointer (some ⟨b, off + k * s, none⟩))) w := by
 obtain ⟨dst, op, type, pos, after, guard⟩ := o
 simp only at hop
 subst hop
 have h1 : 0 ≤ (k : Int) ∧ (k : Int) < (len : Int) := by omega
 simp only [execOp, hx, hy, Sem.run_bind]
 rw [run_indexAt_slice w t ⟨b, off, none⟩ len cap q (k : Int) ht, if_pos h1, hs]
 simp only [Result.andThen, Int.toNat_natCast, Addr.add_mid, Sem.run_pure]
theorem Reg.lss {P : Program} {w : World} {ρ : Operand → Value} {o : Oper} {t t' : TypeId} {x y : Operand} {k : IntKind} {m n : Int} {b : Bool} (hop : o.op = .binOp .lss t x y t') (hx : ρ x = .int k m) (hy : ρ y = .int k n) (h : decide (m < n) = b) :
   (execOp ρ o).run P w = .ok (.value (.bool b)) w := by
 obtain ⟨dst, op, type, pos, after, guard⟩ := o
 simp only at hop
 subst hop
 subst h
 simp [execOp, hx, hy, eqGuard, binOp, Op.intCmp]
theorem Reg.done_at {P : Program} {ops : Array Oper} {Q : Exit → Act → World → Prop} {a : Act} {B fuel : Nat} {ks : List Nat} {l : List (Nat × Value)} {w : World} (hr : Region.ready .any ops (Reg.lst ops.size ks) = []) (a' : Act) (he : Reg.ov a l = a') (h : Q .normal a' w) : Reg.G P ops Q a B fuel ks l w :=
 Reg.done hr (by rw [he]; exact h)
namespace Reg
def nowB (ops : Array Oper) (a : Act) (l : List (Nat × Value)) (o : Oper) : Bool :=
 match o.guard with
 | none => false
 | some (j, want) => match (ops[j]?).bind (·.dst) with
   | none => false
   | some d => Nat.blt d a.tmps.size && (match look a l d with
     | .bool b => b != want
     | _ => true)
theorem unwanted_of (ops : Array Oper) (a : Act) (l : List (Nat × Value)) (o : Oper) (hb : inB a l = true) (h : nowB ops a l o = true) : Region.wanted o (yielded ops (ov a l).tmps) = false := by
 unfold nowB at h
 unfold Region.wanted
 split at h
 · cases h
 · rename_i j want hg
   rw [hg]
   simp only
   split at h
   · cases h
   · rename_i d hd
     simp only [Bool.and_eq_true] at h
     have hlt : d < (ov a l).tmps.size := by rw [ov_size]; have := h.1; rw [Nat.blt_eq] at this; exact this
     have hlk := ov_look a d l hb
     unfold yielded
     rw [hd, Option.bind_some]
     have e : (ov a l).tmps[d]? = some (look a l d) := by
       rw [← hlk, Array.getElem?_eq_getElem hlt]
       simp [Array.getD, hlt]
     rw [e]
     have h2 := h.2
     generalize look a l d = v at *
     cases v <;> simp_all
theorem skip {P : Program} {ops : Array Oper} {Q : Exit → Act → World → Prop} {a : Act} {B fuel : Nat} {ks : List Nat} {l : List (Nat × Value)} {w : World} (hQ : ∀ c (a : Act) (d : Nat) v w, Q (.panic c) (a.put (some d) v) w → Q (.panic c) a w) (i : Nat) (o : Oper) (d : Nat) (hi : ops[i]? = some o) (hs : Region.noSelect ops = true) (hf : Region.free .any ops (lst ops.size ks) i = true)
   (hr : (Region.ready .any ops (lst ops.size ks)).contains i = true) (hd : o.dst = some d) (hb : inB a l = true) (hw : nowB ops a l o = true)
   (h : G P ops Q a B fuel (i :: ks) ((d, undef) :: l) w) : G P ops Q a B (fuel + 1) ks l w := by
 refine wpAnyH_take (v := undef) hi hs hf hr (fun c a' w' hh => hQ c a' d undef w' (by rw [hd] at hh; exact hh)) (.inr ⟨unwanted_of ops a l o hb hw, rfl⟩) (Below.refl _ _) ?_
 rw [hd]; exact h
end Reg
theorem OwnR.later {w w' : World} {B : Nat} {e : TypeId} {v : Value} {xs : List S.R} (h : OwnR w B e v xs) (hb : Below w.heap.size w w') : OwnR w' B e v xs := by
 obtain ⟨h1, h2 | ⟨g, cap, cur, rfl, h3, hg, h4⟩⟩ := h
 · exact ⟨h1, .inl h2⟩
 · exact ⟨h1, .inr ⟨g, cap, cur, rfl, h3, (hb.block g (Array.getElem?_eq_some_iff.1 hg).1).trans hg, h4⟩⟩
theorem rdr_new (w : World) (x y : Int) (t : TypeId) : RdR (w.alloc (.cells #[.int .i32 x, .int .i32 y] t)) (some ⟨w.heap.size, 0, none⟩) [(x, y)] := by
 have h := cells_two (World.alloc_heap_new w (.cells #[.int .i32 x, .int .i32 y] t))
 intro i hi
 obtain rfl : i = 0 := by simpa using hi
 exact ⟨_, 0, rfl, h.1, h.2⟩
theorem RdR.cells {w : World} {b off : Nat} {xs : List S.R} (h : RdR w (some ⟨b, off, none⟩) xs) : ∀ j u, (cR xs)[j]? = some u → w.cell? ((⟨b, off, none⟩ : Addr).add j) = some u := by
 intro j u hu
 have hj : j < xs.length * 2 := by rw [← cR_length]; exact (List.getElem?_eq_some_iff.1 hu).1
 have hj2 : j / 2 < xs.length := by omega
 obtain ⟨b', off', e, h1, h2⟩ := h (j / 2) hj2
 cases e
 have ha := cR_at xs (j / 2) hj2
 rw [Addr.add_mid]
 rcases Nat.mod_two_eq_zero_or_one j with hm | hm
 · rw [show off + j = off + j / 2 * 2 by omega, h1]
   rw [show j = j / 2 * 2 by omega, ha.1] at hu
   exact hu
 · rw [show off + j = off + j / 2 * 2 + 1 by omega, h2]
   rw [show j = j / 2 * 2 + 1 by omega, ha.2] at hu
   exact hu
theorem run_appR {T e : TypeId} (hT : Tryz.prog.underlying T = some (.slice e)) (hI : (Tryz.prog.info? e).map (fun i => (i.zero, i.size, i.bytes)) = some (some (.agg #[.int .i32 0, .int .i32 0]), 2, 8))
   (w : World) (B : Nat) (v : Value) (xs : List S.R) (ao : Option Addr) (ys : List S.R) (cap : Nat) (ty : TypeId) (ho : OwnR w B e v xs) (hB : B ≤ w.heap.size) (hr : RdR w ao ys) (hn : ao = none → cap = 0) (hlen : xs.length + ys.length ≤ 10000000) :
   ∃ v' w', (Builtin.append_ #[T, T] ty #[v, .slice ao ys.length cap]).run Tryz.prog w = .ok v' w' ∧ OwnR w' B e v' (xs ++ ys) ∧ Below B w w' ∧ w.grownBy w' v.ownBlock := by
 obtain ⟨i0, hi, hz0, hz1, hz2⟩ := info_parts2 hI
 have hm : (xs.length + ys.length) * 8 ≤ 140737488355328 := by omega
 cases ao with
 | none =>
   have hx : ys = [] := by
     cases ys with
     | nil => rfl
     | cons x l =>
       obtain ⟨_, _, e, _⟩ := hr 0 (by simp)
       cases e
   subst hx
   rw [hn rfl, List.append_nil]
   exact ⟨v, w, run_append_owned_none (P := Tryz.prog) (w := w) B T ty e i0 2 hT hi v xs.length (cR xs) ho, ho, Below.refl _ _, ⟨rfl, rfl, rfl, Nat.le_refl _, fun _ _ _ => rfl⟩⟩
 | some ad =>
   obtain ⟨v', w', hrun, h1, h2, _⟩ := run_append_own (P := Tryz.prog) w B T ty e i0 _ 2 8 hT hi hz0 hz1 hz2 rfl (by decide) v xs.length (cR xs) ho ad ys.length cap (cR ys) (cR_length ys)
     (fun j u hu => by
       have hj : j < ys.length * 2 := by rw [← cR_length]; exact (List.getElem?_eq_some_iff.1 hu).1
       obtain ⟨b, off, e, _⟩ := hr 0 (by omega)
       cases e
       exact hr.cells j u hu) (cR_one ys) (by unfold maxLen; omega) hm hB
   refine ⟨v', w', hrun, ?_, (Below.refl _ _).grown h2 hB ho.block, h2⟩
   unfold OwnR
   rw [List.length_append, cR_append]
   exact h1
theorem wpl_appR {T e : TypeId} (hT : Tryz.prog.underlying T = some (.slice e)) (hI : (Tryz.prog.info? e).map (fun i => (i.zero, i.size, i.bytes)) = some (some (.agg #[.int .i32 0, .int .i32 0]), 2, 8))
   {w : World} {ops : Array Oper} {rest : List Oper} {o : Oper} {a : Act} {Q : Exit → Act → World → Prop} (hgd : o.guard = none) (s x : Operand)
   (hop : o.op = .call { callee := .builtin .append, args := #[s, x], argTypes := #[T, T] })
   (B : Nat) (v : Value) (xs : List S.R) (ao : Option Addr) (ys : List S.R) (n cap : Nat) (hxl : n = ys.length) (hs : a.eval s = v) (hx : a.eval x = .slice ao n cap)
   (ho : OwnR w B e v xs) (hB : B ≤ w.heap.size) (hr : RdR w ao ys) (hn : ao = none → cap = 0) (hlen : xs.length + ys.length ≤ 10000000)
   (h : ∀ v' w', OwnR w' B e v' (xs ++ ys) → Below B w w' → w.grownBy w' v.ownBlock → wpList Tryz.prog ops Q rest (a.put o.dst v') w') : wpList Tryz.prog ops Q (o :: rest) a w := by
 subst hxl
 refine wpList_plain hgd fun K hK => ?_
 obtain ⟨v', w', hrun, h2, h3, h4⟩ := run_appR hT hI w B v xs ao ys cap o.type ho hB hr hn hlen
 unfold Oper.wp
 simp [execOp, hop, resolve, invoke, builtin, hs, hx, hrun, Result.andThen]
 exact hK _ _ (h v' w' h2 h3 h4)
theorem cR_set (o : List S.R) (z : S.R) (y : Int) : (cR (o ++ [z])).set (o.length * 2 + 1) (.int .i32 y) = cR (o ++ [(z.1, y)]) := by
 induction o with
 | nil => rfl
 | cons x o ih =>
   rw [List.cons_append, List.cons_append, cR_cons, cR_cons, List.length_cons, show (o.length + 1) * 2 + 1 = (o.length * 2 + 1) + 1 + 1 by omega, List.set_cons_succ, List.set_cons_succ, ih]
theorem OwnR.set_last {w : World} {B : Nat} {e : TypeId} {g n cap : Nat} {o : List S.R} {z : S.R} (y : Int) (h : OwnR w B e (.slice (some ⟨g, 0, none⟩) n cap) (o ++ [z])) :
   OwnR (w.setCell ⟨g, o.length * 2 + 1, none⟩ (.int .i32 y)) B e (.slice (some ⟨g, 0, none⟩) n cap) (o ++ [(z.1, y)]) := by
 obtain ⟨h1, h2 | ⟨g', cap', cur, e', h3, hg, h4, h5, h6, h7⟩⟩ := h
 · cases h2.1
 · cases e'
   have hlen : (o ++ [z]).length = o.length + 1 := by simp
   have hlen2 : (o ++ [(z.1, y)]).length = o.length + 1 := by simp
   refine ⟨by rw [cR_length], .inr ⟨g, cap, cur.setIfInBounds (o.length * 2 + 1) (.int .i32 y), by rw [hlen, hlen2], h3, ?_, by rw [hlen2, ← hlen]; exact h4, h5, by simpa using h6, ?_⟩⟩
   · rw [Sort.setCell_eq]
     unfold Sort.mapBlock
     rw [Array.getElem?_modify, if_pos rfl, hg]
     rfl
   · rw [Array.toList_setIfInBounds, List.take_set, hlen2, ← hlen, h7, cR_set]
theorem OwnR.at_last {w : World} {B : Nat} {e : TypeId} {g n cap : Nat} {o : List S.R} {z : S.R} (h : OwnR w B e (.slice (some ⟨g, 0, none⟩) n cap) (o ++ [z])) :
   n = o.length + 1 ∧ B ≤ g ∧ w.cell? ⟨g, o.length * 2, none⟩ = some (.int .i32 z.1) ∧ w.cell? ⟨g, o.length * 2 + 1, none⟩ = some (.int .i32 z.2) ∧ w.frozen? ⟨g, o.length * 2 + 1, none⟩ = false := by
 have hb := h.block g rfl
 obtain ⟨ao, c, e', _, _, hr⟩ := h.rd
 obtain ⟨_, h2 | ⟨g', cap', cur, e2, h3, hg, _⟩⟩ := h
 · cases h2.1
 · cases e2
   obtain ⟨b, off, e3, c1, c2⟩ := hr o.length (by simp)
   rw [e3] at e'
   simp only [Value.slice.injEq, Option.some.injEq, Addr.mk.injEq] at e'
   obtain ⟨⟨rfl, rfl, _⟩, hn, _⟩ := e'
   refine ⟨by simp, hb, ?_, ?_, by simp [World.frozen?, hg]⟩
   · simpa using c1
   · simpa using c2
end Go.Proofs.YtgngaldoemopjaaGreatDoor.U
