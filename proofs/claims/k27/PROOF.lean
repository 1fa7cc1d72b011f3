import PyProof.Rows.All
import Wide.All
import OpenK.AllK
import Wide.FinOn
import HandS.ForMost
import HandS.ForExc
import HandS.Wide
import HandS.IsInst
import HandS.TupAny
import HandS.NoneIn
import HandS.Style
import HandS.Defaults
import HandS.HeadEnd
import HandS.Flt
import HandS.RaiseMore
import HandS.HeadHook1
import HandS.HeadHook2
import HandS.Star
import HandS.SortKw
import HandS.TupMul
import Flt.RightSqrt
import KE.KStateDown
import Lean
import HandS.Head0
import HandS.Head1
import HandS.Head2
import HandS.Head3
import PySem.Challenge.RW_waitmark_k27_whole_lanes_keep_each
set_option Elab.async false
set_option linter.all false
set_option maxRecDepth 100000
set_option maxHeartbeats 4000000
set_option exponentiation.threshold 500
/-! Kp: data in place of heaps. A slot is data, a cell (a list that changes, by its number), or nothing; a reading over slots and cells stands for one over the heap. -/
namespace Kp
open PySem PySem.Spec PyProof.Rows L2

abbrev Frag := PySem.W.Frag
abbrev CS := List (List PyData)
abbrev XD := Addr → CS → Prop

/-! ### pairs -/
theorem pr_get {α β : Type} {F : α → β → Prop} : ∀ {l : List α} {m : List β} {i : Nat} {y : β}, Paired F l m → m[i]? = some y → ∃ x, l[i]? = some x ∧ F x y
  | _, _, _, _, .nil, e => by simp at e
  | _, _, 0, _, .cons r _, e => by simp at e; subst e; exact ⟨_, rfl, r⟩
  | _, _, i + 1, y, .cons _ t, e => by
    obtain ⟨x, h1, h2⟩ := pr_get (i := i) (y := y) t (by simpa using e)
    exact ⟨x, by simpa using h1, h2⟩
theorem pr_get' {α β : Type} {F : α → β → Prop} : ∀ {l : List α} {m : List β} {i : Nat} {x : α}, Paired F l m → l[i]? = some x → ∃ y, m[i]? = some y ∧ F x y
  | _, _, _, _, .nil, e => by simp at e
  | _, _, 0, _, .cons r _, e => by simp at e; subst e; exact ⟨_, rfl, r⟩
  | _, _, i + 1, y, .cons _ t, e => by
    obtain ⟨x, h1, h2⟩ := pr_get' (i := i) (x := y) t (by simpa using e)
    exact ⟨x, by simpa using h1, h2⟩
theorem pr_set {α β : Type} {F : α → β → Prop} {x : α} {y : β} (r : F x y) : ∀ {l : List α} {m : List β} (i : Nat), Paired F l m → Paired F (l.set i x) (m.set i y)
  | _, _, _, .nil => .nil
  | _, _, 0, .cons _ t => .cons r t
  | _, _, i + 1, .cons q t => .cons q (pr_set r i t)
theorem pr_map {α β : Type} {F G : α → β → Prop} (f : ∀ a b, F a b → G a b) : ∀ {l : List α} {m : List β}, Paired F l m → Paired G l m
  | _, _, .nil => .nil
  | _, _, .cons r t => .cons (f _ _ r) (pr_map f t)
/-- .. with membership on the left -/
theorem pr_mapm {α β : Type} {F G : α → β → Prop} : ∀ {l : List α} {m : List β}, (∀ a b, a ∈ l → F a b → G a b) → Paired F l m → Paired G l m
  | _, _, _, .nil => .nil
  | _, _, f, .cons r t => .cons (f _ _ List.mem_cons_self r) (pr_mapm (fun a b h => f a b (List.mem_cons_of_mem _ h)) t)
theorem pr_len {α β : Type} {F : α → β → Prop} {l : List α} {m : List β} (h : Paired F l m) : l.length = m.length := Paired.length h

/-! ### data at a value -/
def hid (H : Hp) (as : List Addr) : Hp := fun b => if b ∈ as then none else H b
theorem hid_out {H : Hp} {as : List Addr} {b : Addr} (h : b ∉ as) : hid H as b = H b := by unfold hid; rw [if_neg h]
theorem hid_of {H : Hp} {as : List Addr} {b : Addr} {o : HO} (h : hid H as b = some o) : b ∉ as ∧ H b = some o := by
  unfold hid at h
  by_cases q : b ∈ as
  · rw [if_pos q] at h; cases h
  · rw [if_neg q] at h; exact ⟨q, h⟩
theorem hid_sub (H : Hp) (as : List Addr) : Same (hid H as) H := fun _ _ h => (hid_of h).2
theorem hid_nil (H : Hp) : hid H [] = H := by funext b; unfold hid; simp

theorem same_t {K : Frag} {H H' : Hp} {a : Addr} {xs : List V} (e : Same H H') (h : SqT K H a xs) : SqT K H' a xs := by
  rcases h with (h | ⟨o, h⟩) | h
  · exact .inl (.inl (e _ _ h))
  · exact .inl (.inr ⟨o, e _ _ h⟩)
  · exact .inr h

mutual
inductive Dq (K : Frag) (H : Hp) : V → PyData → Prop
  | non : Dq K H .non .none
  | bl (b : Bool) : Dq K H (.bl b) (.bool b)
  | int (i : Int) : Dq K H (.int i) (.int i)
  | str (x : Str) : Dq K H (.str x) (.str x)
  | lst {a : Addr} {xs : List V} {ds : List PyData} : H a = some (.lst xs) → DqAll K H xs ds → Dq K H (.ref a) (.list ds)
  | tup {a : Addr} {xs : List V} {ds : List PyData} : SqT K H a xs → DqAll K H xs ds → Dq K H (.ref a) (.tuple ds)
  | emp {a : Addr} : H a = some (.dK []) → Dq K H (.ref a) (.dict [])
inductive DqAll (K : Frag) (H : Hp) : List V → List PyData → Prop
  | nil : DqAll K H [] []
  | cons {v : V} {vs : List V} {d : PyData} {ds : List PyData} : Dq K H v d → DqAll K H vs ds → DqAll K H (v :: vs) (d :: ds)
end
mutual
theorem Dq.mono {K : Frag} {H H' : Hp} (s : Same H H') : ∀ {v : V} {d : PyData}, Dq K H v d → Dq K H' v d
  | _, _, .non => .non
  | _, _, .bl b => .bl b
  | _, _, .int i => .int i
  | _, _, .str x => .str x
  | _, _, .lst h a => .lst (s _ _ h) (DqAll.mono s a)
  | _, _, .tup h a => .tup (same_t s h) (DqAll.mono s a)
  | _, _, .emp h => .emp (s _ _ h)
theorem DqAll.mono {K : Frag} {H H' : Hp} (s : Same H H') : ∀ {vs : List V} {ds : List PyData}, DqAll K H vs ds → DqAll K H' vs ds
  | _, _, .nil => .nil
  | _, _, .cons h t => .cons (Dq.mono s h) (DqAll.mono s t)
end
section
variable {K : Frag} {H : Hp}
theorem DqAll.len : ∀ {vs : List V} {ds : List PyData}, DqAll K H vs ds → vs.length = ds.length
  | _, _, .nil => rfl
  | _, _, .cons _ t => by rw [List.length_cons, List.length_cons, DqAll.len t]
theorem DqAll.get : ∀ {vs : List V} {ds : List PyData} {i : Nat} {d : PyData}, DqAll K H vs ds → ds[i]? = some d → ∃ v, vs[i]? = some v ∧ Dq K H v d
  | _, _, _, _, .nil, e => by simp at e
  | _, _, 0, _, .cons r _, e => by simp at e; subst e; exact ⟨_, rfl, r⟩
  | _, _, i + 1, d, .cons _ t, e => by
    obtain ⟨x, h1, h2⟩ := DqAll.get (i := i) (d := d) t (by simpa using e)
    exact ⟨x, by simpa using h1, h2⟩
theorem DqAll.get' : ∀ {vs : List V} {ds : List PyData} {i : Nat} {v : V}, DqAll K H vs ds → vs[i]? = some v → ∃ d, ds[i]? = some d ∧ Dq K H v d
  | _, _, _, _, .nil, e => by simp at e
  | _, _, 0, _, .cons r _, e => by simp at e; subst e; exact ⟨_, rfl, r⟩
  | _, _, i + 1, v, .cons _ t, e => by
    obtain ⟨x, h1, h2⟩ := DqAll.get' (i := i) (v := v) t (by simpa using e)
    exact ⟨x, by simpa using h1, h2⟩
theorem DqAll.app : ∀ {vs ws : List V} {ds es : List PyData}, DqAll K H vs ds → DqAll K H ws es → DqAll K H (vs ++ ws) (ds ++ es)
  | _, _, _, _, .nil, s => s
  | _, _, _, _, .cons r t, s => .cons r (DqAll.app t s)
theorem DqAll.take : ∀ {vs : List V} {ds : List PyData} (n : Nat), DqAll K H vs ds → DqAll K H (vs.take n) (ds.take n)
  | _, _, 0, _ => .nil
  | _, _, _ + 1, .nil => .nil
  | _, _, n + 1, .cons r t => .cons r (DqAll.take n t)
theorem DqAll.drop : ∀ {vs : List V} {ds : List PyData} (n : Nat), DqAll K H vs ds → DqAll K H (vs.drop n) (ds.drop n)
  | _, _, 0, r => r
  | _, _, _ + 1, .nil => .nil
  | _, _, n + 1, .cons _ t => DqAll.drop n t
theorem DqAll.set {x : V} {d : PyData} (r : Dq K H x d) : ∀ {vs : List V} {ds : List PyData} (i : Nat), DqAll K H vs ds → DqAll K H (vs.set i x) (ds.set i d)
  | _, _, _, .nil => .nil
  | _, _, 0, .cons _ t => .cons r t
  | _, _, i + 1, .cons q t => .cons q (DqAll.set r i t)
theorem DqAll.one {v : V} {d : PyData} (h : Dq K H v d) : DqAll K H [v] [d] := .cons h .nil
theorem DqAll.rep {v : V} {d : PyData} (h : Dq K H v d) : ∀ n, DqAll K H (List.replicate n v) (List.replicate n d)
  | 0 => .nil
  | n + 1 => by rw [List.replicate_succ, List.replicate_succ]; exact .cons h (DqAll.rep h n)
end

/-! ### slots, cells, the world -/
inductive Sl where
  | no | d (x : PyData) | c (j : Nat) | f (ds : List PyData)

def SlOk (K : Frag) (H : Hp) (as : List Addr) (o : Option V) : Sl → Prop
  | .no => True
  | .d x => ∃ v, o = some v ∧ Dq K (hid H as) v x
  | .c j => ∃ a, as[j]? = some a ∧ o = some (.ref a)
  | .f ds => ∃ a xs, o = some (.ref a) ∧ SqL K (hid H as) a xs ∧ DqAll K (hid H as) xs ds
abbrev Ev (K : Frag) (H : Hp) (as : List Addr) (σ : L2.St) (ρ : List Sl) : Prop := Paired (SlOk K H as) σ ρ
def CelOk (K : Frag) (H : Hp) (as : List Addr) (a : Addr) (ds : List PyData) : Prop := ∃ xs, H a = some (.lst xs) ∧ DqAll K (hid H as) xs ds
structure Wk (K : Frag) (H : Hp) (as : List Addr) (cs : CS) : Prop where
  nd : as.Nodup
  cel : Paired (CelOk K H as) as cs
theorem Wk.nil {K : Frag} {H : Hp} : Wk K H [] [] := ⟨List.nodup_nil, .nil⟩
theorem Wk.al {K : Frag} {H : Hp} {as : List Addr} {cs : CS} (w : Wk K H as cs) {a : Addr} (h : a ∈ as) : ∃ o, H a = some o := by
  obtain ⟨i, hi⟩ := List.getElem?_of_mem h
  obtain ⟨_, _, xs, e, _⟩ := pr_get' w.cel hi
  exact ⟨_, e⟩

/-- all but the cells stays -/
def Ext (as : List Addr) (H H' : Hp) : Prop := ∀ b o, b ∉ as → H b = some o → H' b = some o
theorem Ext.refl {as : List Addr} {H : Hp} : Ext as H H := fun _ _ _ e => e
theorem Ext.of {as : List Addr} {H H' : Hp} (s : Same H H') : Ext as H H' := fun b o _ e => s b o e
theorem Ext.trans {as : List Addr} {H H1 H2 : Hp} (a : Ext as H H1) (b : Ext as H1 H2) : Ext as H H2 := fun c o h e => b c o h (a c o h e)
theorem Ext.hid {as : List Addr} {H H' : Hp} (e : Ext as H H') : Same (hid H as) (hid H' as) := fun b o h => by
  obtain ⟨h1, h2⟩ := hid_of h
  rw [hid_out h1]
  exact e b o h1 h2
theorem Same.new {H : Hp} {p : Addr} {o : HO} (h : H p = none) : Same H (upd H p o) := fun a u e => by
  rw [upd_ne (ne_of_none e h)]
  exact e
section
variable {K : Frag} {H H' : Hp} {as : List Addr} {cs : CS} {σ : L2.St} {ρ : List Sl}
theorem SlOk.ext {o : Option V} {s : Sl} (e : Same (hid H as) (hid H' as)) (h : SlOk K H as o s) : SlOk K H' as o s := by
  cases s with
  | no => trivial
  | d x => obtain ⟨v, h1, h2⟩ := h; exact ⟨v, h1, h2.mono e⟩
  | c j => exact h
  | f ds => obtain ⟨a, xs, h1, h2, h3⟩ := h; exact ⟨a, xs, h1, e.seq h2, h3.mono e⟩
theorem Ev.ext (e : Ext as H H') (h : Ev K H as σ ρ) : Ev K H' as σ ρ := pr_map (fun _ _ q => q.ext e.hid) h
/-- new objects beside -/
theorem Wk.grow (w : Wk K H as cs) (s : Same H H') : Wk K H' as cs :=
  ⟨w.nd, pr_map (fun a ds ⟨xs, e, q⟩ => ⟨xs, s _ _ e, q.mono (Ext.of (as := as) s).hid⟩) w.cel⟩
/-- a new object is none of the cells -/
theorem Wk.fresh (w : Wk K H as cs) {p : Addr} (h : H p = none) : p ∉ as := fun q => by
  obtain ⟨o, e⟩ := w.al q
  rw [h] at e; cases e
end

/-! ### readings over data -/
abbrev DE := List Sl → CS → XD → (PyData → CS → Prop) → Prop
abbrev DT := List Sl → CS → XD → (Bool → CS → Prop) → Prop
abbrev DA := List Sl → CS → XD → (List Sl → CS → Prop) → Prop
/-- what is wanted of an exception, where one stands -/
def EK (K : Frag) (E : XK) (Ed : XD) (as : List Addr) (H : Hp) : Prop := ∀ C H' cs', Ext as H H' → Wk K H' as cs' → Ed C cs' → E (.ref C) none H'
theorem EK.ext {K : Frag} {E : XK} {Ed : XD} {as : List Addr} {H H' : Hp} (h : EK K E Ed as H) (e : Ext as H H') : EK K E Ed as H' := fun C H2 cs' a b c => h C H2 cs' (e.trans a) b c

def SE (K : Frag) (E : XK) (t : TE) (d : DE) : Prop := ∀ (as : List Addr) (σ : L2.St) (H : Hp) (ρ : List Sl) (cs : CS) (Ed : XD) (Qd : PyData → CS → Prop) (Q : VK),
  Wk K H as cs → Ev K H as σ ρ → EK K E Ed as H → d ρ cs Ed Qd → (∀ v H' x cs', Ext as H H' → Wk K H' as cs' → Dq K (hid H' as) v x → Qd x cs' → Q v H') → t σ H Q
def ST (K : Frag) (E : XK) (t : TT) (d : DT) : Prop := ∀ (as : List Addr) (σ : L2.St) (H : Hp) (ρ : List Sl) (cs : CS) (Ed : XD) (Qd : Bool → CS → Prop) (Q : Bool → Hp → Prop),
  Wk K H as cs → Ev K H as σ ρ → EK K E Ed as H → d ρ cs Ed Qd → (∀ b H' cs', Ext as H H' → Wk K H' as cs' → Qd b cs' → Q b H') → t σ H Q
/-- arguments: data, or cells -/
abbrev Ar (K : Frag) (H : Hp) (as : List Addr) (vs : List V) (ss : List Sl) : Prop := Paired (fun v s => SlOk K H as (some v) s ∧ s ≠ .no) vs ss
def SA (K : Frag) (E : XK) (t : TA) (d : DA) : Prop := ∀ (as : List Addr) (σ : L2.St) (H : Hp) (ρ : List Sl) (cs : CS) (Ed : XD) (Qd : List Sl → CS → Prop) (Q : List V → Hp → Prop),
  Wk K H as cs → Ev K H as σ ρ → EK K E Ed as H → d ρ cs Ed Qd → (∀ vs H' ss cs', Ext as H H' → Wk K H' as cs' → Ar K H' as vs ss → Qd ss cs' → Q vs H') → t σ H Q

structure QE (X : Cx) (E : XK) (e : Expr) (d : DE) : Prop where
  ex : ∃ t, PE X e t ∧ SE X.K E t d
structure QT (X : Cx) (E : XK) (e : Expr) (d : DT) : Prop where
  ex : ∃ t, PT X e t ∧ ST X.K E t d
structure QW (X : Cx) (E : XK) (e : Expr) (d : DT) : Prop where
  ex : ∃ t, PW X e t ∧ ST X.K E t d
structure QA (X : Cx) (E : XK) (es : List Expr) (d : DA) : Prop where
  ex : ∃ t, PA X es t ∧ SA X.K E t d

section
variable {X : Cx} {E : XK}
/-! ### names, constants -/
def dVar (i : Nat) : DE := fun ρ cs _ Q => match ρ[i]? with
  | some (.d x) => Q x cs
  | _ => False
theorem se_var {K : Frag} (i : Nat) : SE K E (tVar i) (dVar i) := fun as σ H ρ cs Ed Qd Q w e ek h k => by
  unfold dVar at h
  cases q : ρ[i]? with
  | none => rw [q] at h; exact h.elim
  | some s =>
    rw [q] at h
    obtain ⟨o, ho, hs⟩ := pr_get e q
    cases s with
    | no => exact h.elim
    | c j => exact h.elim
    | f ds => exact h.elim
    | d x =>
      obtain ⟨v, rfl, hv⟩ := hs
      exact ⟨v, ho, k v H x cs Ext.refl w hv h⟩
theorem q_var (i : Nat) {x : Str} {pos : Pos} (hN : X.N[i]? = some x := by rfl) (hv : Vis X.env.scope x := by first | exact Or.inl rfl | exact Or.inr (Or.inl rfl) | exact Or.inr (Or.inr rfl)) (hd : (x == ("__debug__" : Str)) = false := by decide)
    (hcd : (x == ("__classdict__" : Str)) = false := by decide) : QE X E (.Name x pos) (dVar i) := ⟨_, pe_var hN hv hd hcd, se_var i⟩
def dC (x : PyData) : DE := fun _ cs _ Q => Q x cs
theorem se_c {K : Frag} {v : V} {x : PyData} (h : ∀ H, Dq K H v x) : SE K E (tC v) (dC x) := fun as σ H ρ cs Ed Qd Q w e ek hq k => k v H x cs Ext.refl w (h _) hq
theorem q_int {i : Int} {j : Nat} {pos : Pos} : QE X E (.Constant (.int i) j pos) (dC (.int i)) := ⟨_, pe_int, se_c fun _ => .int i⟩
theorem q_bl {i : Bool} {j : Nat} {pos : Pos} : QE X E (.Constant (.bool i) j pos) (dC (.bool i)) := ⟨_, pe_bl, se_c fun _ => .bl i⟩
theorem q_non {j : Nat} {pos : Pos} : QE X E (.Constant .none j pos) (dC .none) := ⟨_, pe_non, se_c fun _ => .non⟩
theorem q_str {i : Str} {j : Nat} {pos : Pos} : QE X E (.Constant (.str i) j pos) (dC (.str i)) := ⟨_, pe_str, se_c fun _ => .str i⟩
theorem q_globI {x : Str} {i : Int} {pos : Pos} (hm : ∃ t, X.mg x = some (.int i t)) (hg : Gl X x := by rfl) (hd : (x == ("__debug__" : Str)) = false := by decide) : QE X E (.Name x pos) (dC (.int i)) := by
  obtain ⟨t, h⟩ := hm
  exact ⟨_, pe_glob hg h (v := .int i) ⟨t, rfl⟩ hd, se_c fun _ => .int i⟩

/-! ### operators -/
abbrev R2D := PyData → PyData → (PyData → Prop) → Prop
def SR (K : Frag) (r : R2) (rd : R2D) : Prop := ∀ (as : List Addr) (H : Hp) (cs : CS) (v u : V) (x y : PyData) (Qd : PyData → Prop) (Q : VK), Wk K H as cs → Dq K (hid H as) v x → Dq K (hid H as) u y → rd x y Qd →
  (∀ w H' z, Same H H' → Dq K (hid H' as) w z → Qd z → Q w H') → r v u H Q
def dOp (rd : R2D) (da db : DE) : DE := fun ρ cs Ed Q => da ρ cs Ed fun x cs1 => db ρ cs1 Ed fun y cs2 => rd x y fun z => Q z cs2
theorem se_op {K : Frag} {r : R2} {rd : R2D} {ta tb : TE} {da db : DE} (ha : SE K E ta da) (hb : SE K E tb db) (hr : SR K r rd) : SE K E (tOp r ta tb) (dOp rd da db) := fun as σ H ρ cs Ed Qd Q w e ek h k =>
  ha as σ H ρ cs Ed _ _ w e ek h fun v H1 x cs1 e1 w1 d1 h1 => hb as σ H1 ρ cs1 Ed _ _ w1 (e.ext e1) (ek.ext e1) h1 fun u H2 y cs2 e2 w2 d2 h2 =>
    hr as H2 cs2 v u x y _ _ w2 (d1.mono e2.hid) d2 h2 fun z H3 zz s3 d3 h3 => k z H3 zz cs2 ((e1.trans e2).trans (Ext.of s3)) (w2.grow s3) d3 h3
theorem q_bin {a b : Expr} {op : Operator} {pos : Pos} {r : R2} {rd : R2D} {da db : DE} (ho : OpR X (binaryOp op) r) (hr : SR X.K r rd) (ha : QE X E a da) (hb : QE X E b db) : QE X E (.BinOp a op b pos) (dOp rd da db) := by
  obtain ⟨ta, a1, a2⟩ := ha.ex
  obtain ⟨tb, b1, b2⟩ := hb.ex
  exact ⟨_, pe_op ho a1 b1, se_op a2 b2 hr⟩
theorem q_cmp {a b : Expr} {op : CmpOp} {pos : Pos} {r : R2} {rd : R2D} {da db : DE} (ho : OpR X (compareOp op) r) (hr : SR X.K r rd) (ha : QE X E a da) (hb : QE X E b db) (hm : behindInMarks op b = false := by first | exact nomark _ | rfl) :
    QE X E (.Compare a [op] [b] pos) (dOp rd da db) := by
  obtain ⟨ta, a1, a2⟩ := ha.ex
  obtain ⟨tb, b1, b2⟩ := hb.ex
  exact ⟨_, pe_cmpR ho a1 b1 hm, se_op a2 b2 hr⟩
/-- two ints, under C -/
def dI (C : Int → Int → Prop) (g : Int → Int → PyData) : R2D := fun x y Q => match x, y with
  | .int i, .int j => C i j ∧ Q (g i j)
  | _, _ => False
def dI0 (g : Int → Int → PyData) : R2D := fun x y Q => match x, y with
  | .int i, .int j => Q (g i j)
  | _, _ => False
theorem sr_I {K : Frag} {C : Int → Int → Prop} {g : Int → Int → V} {gd : Int → Int → PyData} (hg : ∀ H i j, Dq K H (g i j) (gd i j)) : SR K (rI C g) (dI C gd) := fun as H cs v u x y Qd Q w hx hy h k => by
  cases hx <;> cases hy <;> try exact h.elim
  exact ⟨_, _, rfl, rfl, h.1, k _ H _ (Same.refl H) (hg _ _ _) h.2⟩
theorem sr_I0 {K : Frag} {g : Int → Int → V} {gd : Int → Int → PyData} (hg : ∀ H i j, Dq K H (g i j) (gd i j)) : SR K (rI0 g) (dI0 gd) := fun as H cs v u x y Qd Q w hx hy h k => by
  cases hx <;> cases hy <;> try exact h.elim
  exact ⟨_, _, rfl, rfl, k _ H _ (Same.refl H) (hg _ _ _) h⟩
end
end Kp

namespace Kp
open PySem PySem.Spec PyProof.Rows L2
section
variable {K : Frag} {E : XK} {X : Cx}

/-! ### by places, cut -/
theorem DqAll.at_ {H : Hp} {xs : List V} {ds : List PyData} {i : Int} {d : PyData} (h : DqAll K H xs ds) (e : atI ds i = some d) : ∃ v, atI xs i = some v ∧ Dq K H v d := by
  unfold atI at e ⊢
  rw [h.len]
  cases q : ixN ds.length i with
  | none => rw [q] at e; cases e
  | some j =>
    rw [q] at e
    obtain ⟨v, h1, h2⟩ := h.get (show ds[j]? = some d from e)
    exact ⟨v, h1, h2⟩
def cutD (ds : List PyData) (lo hi : Option Int) : List PyData := (ds.drop (HT.sIx ds.length 0 lo)).take (HT.sIx ds.length ds.length hi - HT.sIx ds.length 0 lo)
theorem DqAll.cut {H : Hp} {xs : List V} {ds : List PyData} (h : DqAll K H xs ds) (lo hi : Option Int) : DqAll K H (cutV xs lo hi) (cutD ds lo hi) := by
  unfold cutV cutD
  rw [h.len]
  exact (h.drop _).take _
theorem hidL {H : Hp} {as : List Addr} {a : Addr} {xs : List V} (h : SqL K (hid H as) a xs) : SqL K H a xs := (hid_sub H as).seq h
theorem hidT {H : Hp} {as : List Addr} {a : Addr} {xs : List V} (h : SqT K (hid H as) a xs) : SqT K H a xs := same_t (hid_sub H as) h
theorem hid1 {H : Hp} {as : List Addr} {a : Addr} {o : HO} (h : hid H as a = some o) : H a = some o := (hid_of h).2
/-- a new object is seen -/
theorem hid_new {H : Hp} {as : List Addr} {p : Addr} {o : HO} (h : p ∉ as) : hid (upd H p o) as p = some o := by rw [hid_out h]; exact upd_same
theorem new_mono {H : Hp} {as : List Addr} {p : Addr} {o : HO} (h : H p = none) : Same (hid H as) (hid (upd H p o) as) := (Ext.of (as := as) (Same.new h)).hid

/-- what may be indexed, measured, cut: a slot's items -/
def itemsOf (cs : CS) : Option Sl → Option (List PyData)
  | some (.d (.tuple ds)) => some ds
  | some (.d (.list ds)) => some ds
  | some (.f ds) => some ds
  | some (.c j) => cs[j]?
  | _ => none
/-- the slot's object, as it stands -/
theorem slot_items {as : List Addr} {σ : L2.St} {H : Hp} {ρ : List Sl} {cs : CS} {i : Nat} {ds : List PyData} (w : Wk K H as cs) (e : Ev K H as σ ρ) (h : itemsOf cs ρ[i]? = some ds) :
    ∃ a xs, σ[i]? = some (some (.ref a)) ∧ (SqL K H a xs ∨ SqT K (hid H as) a xs) ∧ DqAll K (hid H as) xs ds := by
  cases q : ρ[i]? with
  | none => rw [q] at h; cases h
  | some s =>
    rw [q] at h
    obtain ⟨o, ho, hs⟩ := pr_get e q
    cases s with
    | no => cases h
    | d x =>
      obtain ⟨v, rfl, hv⟩ := hs
      cases hv with
      | lst h1 h2 =>
        have e2 := Option.some.inj (show some _ = some ds from h)
        subst e2
        exact ⟨_, _, ho, .inl (SqL.of (hid1 h1)), h2⟩
      | tup h1 h2 =>
        have e2 := Option.some.inj (show some _ = some ds from h)
        subst e2
        exact ⟨_, _, ho, .inr h1, h2⟩
      | _ => cases h
    | f es =>
      obtain ⟨a, xs, rfl, h1, h2⟩ := hs
      have e2 := Option.some.inj (show some es = some ds from h)
      subst e2
      exact ⟨a, xs, ho, .inl (hidL h1), h2⟩
    | c j =>
      obtain ⟨a, h1, rfl⟩ := hs
      obtain ⟨a', h2, xs, h3, h4⟩ := pr_get w.cel (show cs[j]? = some ds from h)
      rw [h1] at h2
      cases h2
      exact ⟨a, xs, ho, .inl (SqL.of h3), h4⟩
/-- the same value behind more steps -/
theorem slot_same {as : List Addr} {σ : L2.St} {H : Hp} {ρ : List Sl} {cs : CS} {i : Nat} {ds : List PyData} {v : V} (w : Wk K H as cs) (e : Ev K H as σ ρ) (hv : σ[i]? = some (some v)) (h : itemsOf cs ρ[i]? = some ds) :
    ∃ a xs, v = .ref a ∧ (SqL K H a xs ∨ SqT K (hid H as) a xs) ∧ DqAll K (hid H as) xs ds := by
  obtain ⟨a, xs, h1, h2, h3⟩ := slot_items w e h
  rw [hv] at h1
  exact ⟨a, xs, Option.some.inj (Option.some.inj h1), h2, h3⟩

abbrev rIx2 (K : Frag) : R2 := fun x y H Q => rIxL K x y H Q ∨ rIxT K x y H Q
theorem ix2 : IxR X (rIx2 X.K) := ix_list.or ix_tup
theorem rIx2_of {H : Hp} {a : Addr} {xs : List V} {i : Int} {v : V} {Q : VK} (h : SqL K H a xs ∨ SqT K H a xs) (e : atI xs i = some v) (q : Q v H) : rIx2 K (.ref a) (.int i) H Q := by
  rcases h with h | h
  · exact .inl ⟨a, xs, i, v, rfl, rfl, h, e, q⟩
  · exact .inr ⟨a, xs, i, v, rfl, rfl, h, e, q⟩
/-- x[e], x a name -/
def dIxV (i : Nat) (db : DE) : DE := fun ρ cs Ed Q => (itemsOf cs ρ[i]?).isSome = true ∧ db ρ cs Ed fun y cs2 => match y with
  | .int n => ∃ ds d, itemsOf cs2 ρ[i]? = some ds ∧ atI ds n = some d ∧ Q d cs2
  | _ => False
theorem se_ixV {tb : TE} {db : DE} (i : Nat) (hb : SE K E tb db) : SE K E (tOp (rIx2 K) (tVar i) tb) (dIxV i db) := fun as σ H ρ cs Ed Qd Q w e ek h k => by
  obtain ⟨hs, h⟩ := h
  obtain ⟨ds0, hs0⟩ := Option.isSome_iff_exists.mp hs
  obtain ⟨a, _, hv, _, _⟩ := slot_items w e hs0
  refine ⟨_, hv, hb as σ H ρ cs Ed _ _ w e ek h fun u H2 y cs2 e2 w2 d2 h2 => ?_⟩
  cases d2 <;> try exact h2.elim
  obtain ⟨ds, d, h3, h4, h5⟩ := h2
  obtain ⟨a', xs, q1, q2, q3⟩ := slot_same w2 (e.ext e2) hv h3
  cases q1
  obtain ⟨v, q4, q5⟩ := q3.at_ h4
  exact rIx2_of (q2.imp_right hidT) q4 (k v H2 d cs2 e2 w2 q5 h5)
theorem q_ixV {a b : Expr} {pos : Pos} {db : DE} (i : Nat) (ha : PE X a (tVar i)) (hb : QE X E b db) (hs : PlainIx b := by exact fun _ _ => rfl) : QE X E (.Subscript a b pos) (dIxV i db) := by
  obtain ⟨tb, b1, b2⟩ := hb.ex
  exact ⟨_, pe_ix ix2 ha b1 hs, se_ixV i b2⟩
/-- e[e'] -/
def dIx (da db : DE) : DE := fun ρ cs Ed Q => da ρ cs Ed fun x cs1 => db ρ cs1 Ed fun y cs2 => match x, y with
  | .tuple ds, .int n => ∃ d, atI ds n = some d ∧ Q d cs2
  | .list ds, .int n => ∃ d, atI ds n = some d ∧ Q d cs2
  | _, _ => False
theorem se_ix {ta tb : TE} {da db : DE} (ha : SE K E ta da) (hb : SE K E tb db) : SE K E (tOp (rIx2 K) ta tb) (dIx da db) := fun as σ H ρ cs Ed Qd Q w e ek h k =>
  ha as σ H ρ cs Ed _ _ w e ek h fun v H1 x cs1 e1 w1 d1 h1 => hb as σ H1 ρ cs1 Ed _ _ w1 (e.ext e1) (ek.ext e1) h1 fun u H2 y cs2 e2 w2 d2 h2 => by
    have d1' := d1.mono e2.hid
    cases d1' with
    | lst g1 g2 =>
      cases d2 <;> try exact h2.elim
      obtain ⟨d, h4, h5⟩ := h2
      obtain ⟨z, q4, q5⟩ := g2.at_ h4
      exact rIx2_of (.inl (SqL.of (hid1 g1))) q4 (k z H2 d cs2 (e1.trans e2) w2 q5 h5)
    | tup g1 g2 =>
      cases d2 <;> try exact h2.elim
      obtain ⟨d, h4, h5⟩ := h2
      obtain ⟨z, q4, q5⟩ := g2.at_ h4
      exact rIx2_of (.inr (hidT g1)) q4 (k z H2 d cs2 (e1.trans e2) w2 q5 h5)
    | _ => exact h2.elim
theorem q_ix {a b : Expr} {pos : Pos} {da db : DE} (ha : QE X E a da) (hb : QE X E b db) (hs : PlainIx b := by exact fun _ _ => rfl) : QE X E (.Subscript a b pos) (dIx da db) := by
  obtain ⟨ta, a1, a2⟩ := ha.ex
  obtain ⟨tb, b1, b2⟩ := hb.ex
  exact ⟨_, pe_ix ix2 a1 b1 hs, se_ix a2 b2⟩

/-! ### slices -/
abbrev DO := List Sl → CS → XD → (Option Int → CS → Prop) → Prop
def SO (K : Frag) (E : XK) (t : TO) (d : DO) : Prop := ∀ (as : List Addr) (σ : L2.St) (H : Hp) (ρ : List Sl) (cs : CS) (Ed : XD) (Qd : Option Int → CS → Prop) (Q : Option Int → Hp → Prop),
  Wk K H as cs → Ev K H as σ ρ → EK K E Ed as H → d ρ cs Ed Qd → (∀ o H' cs', Ext as H H' → Wk K H' as cs' → Qd o cs' → Q o H') → t σ H Q
structure QO (X : Cx) (E : XK) (e : Option Expr) (d : DO) : Prop where
  ex : ∃ t, PO X e t ∧ SO X.K E t d
def dNo : DO := fun _ cs _ Q => Q none cs
def dPart (da : DE) : DO := fun ρ cs Ed Q => da ρ cs Ed fun x cs1 => match x with
  | .int i => Q (some i) cs1
  | _ => False
theorem q_no : QO X E none dNo := ⟨_, po_none, fun as σ H ρ cs Ed Qd Q w e ek h k => k none H cs Ext.refl w h⟩
theorem q_part {a : Expr} {da : DE} (ha : QE X E a da) : QO X E (some a) (dPart da) := by
  obtain ⟨ta, a1, a2⟩ := ha.ex
  refine ⟨_, po_some a1, fun as σ H ρ cs Ed Qd Q w e ek h k => a2 as σ H ρ cs Ed _ _ w e ek h fun v H1 x cs1 e1 w1 d1 h1 => ?_⟩
  cases d1 <;> try exact h1.elim
  exact ⟨_, rfl, k _ H1 cs1 e1 w1 h1⟩
abbrev rSl2 (K : Frag) : V → Option Int → Option Int → Hp → VK → Prop := fun x lo hi H Q => rSlL K x lo hi H Q ∨ rSlA K x lo hi H Q
theorem sl2 : SlR X (rSl2 X.K) := sl_list.or sl_tupA
/-- x[lo:hi], x a name: a new list, a tuple -/
def cutS (cs : CS) (s : Option Sl) (lo hi : Option Int) : Option PyData := match s with
  | some (.d (.tuple ds)) => some (.tuple (cutD ds lo hi))
  | some (.d (.list ds)) => some (.list (cutD ds lo hi))
  | some (.f ds) => some (.list (cutD ds lo hi))
  | some (.c j) => (cs[j]?).map fun ds => .list (cutD ds lo hi)
  | _ => none
theorem cut_whole {ds : List PyData} {lo hi : Option Int} (h : HT.sIx ds.length 0 lo = 0 ∧ HT.sIx ds.length ds.length hi = ds.length) : cutD ds lo hi = ds := by
  unfold cutD
  rw [h.1, h.2]
  simp
theorem cutT_ok {as : List Addr} {H : Hp} {cs : CS} {a : Addr} {xs : List V} {ds : List PyData} {lo hi : Option Int} {Q : VK} (w : Wk K H as cs) (h1 : SqT K (hid H as) a xs) (h2 : DqAll K (hid H as) xs ds)
    (k : ∀ v H', Same H H' → Dq K (hid H' as) v (.tuple (cutD ds lo hi)) → Q v H') : rSl2 K (.ref a) lo hi H Q := by
  refine .inr ⟨a, xs, rfl, hidT h1, fun z => ?_, fun z p hp => ?_⟩
  · rw [h2.len] at z
    exact k _ H (Same.refl H) (by rw [cut_whole z]; exact .tup h1 h2)
  · exact k _ _ (Same.new hp) (.tup (SqT.of (hid_new (w.fresh hp))) ((h2.cut lo hi).mono (new_mono hp)))
theorem cutL_ok {as : List Addr} {H : Hp} {cs : CS} {a : Addr} {xs : List V} {ds : List PyData} {lo hi : Option Int} {Q : VK} (w : Wk K H as cs) (h1 : SqL K H a xs) (h2 : DqAll K (hid H as) xs ds)
    (k : ∀ v H', Same H H' → Dq K (hid H' as) v (.list (cutD ds lo hi)) → Q v H') : rSl2 K (.ref a) lo hi H Q :=
  .inl ⟨a, xs, rfl, h1, fun p hp => k _ _ (Same.new hp) (.lst (hid_new (w.fresh hp)) ((h2.cut lo hi).mono (new_mono hp)))⟩
def dSlV (i : Nat) (dl dh : DO) : DE := fun ρ cs Ed Q => (itemsOf cs ρ[i]?).isSome = true ∧ dl ρ cs Ed fun lo cs1 => dh ρ cs1 Ed fun hi cs2 => ∃ z, cutS cs2 ρ[i]? lo hi = some z ∧ Q z cs2
theorem se_slV {tl th : TO} {dl dh : DO} (i : Nat) (hl : SO K E tl dl) (hh : SO K E th dh) : SE K E (tSl (rSl2 K) (tVar i) tl th) (dSlV i dl dh) := fun as σ H ρ cs Ed Qd Q w e ek h k => by
  obtain ⟨hs, h⟩ := h
  obtain ⟨ds0, hs0⟩ := Option.isSome_iff_exists.mp hs
  obtain ⟨a, _, hv, _, _⟩ := slot_items w e hs0
  refine ⟨_, hv, hl as σ H ρ cs Ed _ _ w e ek h fun lo H1 cs1 e1 w1 h1 => hh as σ H1 ρ cs1 Ed _ _ w1 (e.ext e1) (ek.ext e1) h1 fun hi H2 cs2 e2 w2 h2 => ?_⟩
  obtain ⟨z, hz, hq⟩ := h2
  have ev2 := (e.ext e1).ext e2
  have go : ∀ v H', Same H2 H' → Dq K (hid H' as) v z → Q v H' := fun v H' s d => k v H' z cs2 ((e1.trans e2).trans (Ext.of s)) (w2.grow s) d hq
  cases q : ρ[i]? with
  | none => rw [q] at hz; cases hz
  | some s =>
    rw [q] at hz
    obtain ⟨o, ho, hss⟩ := pr_get ev2 q
    rw [hv] at ho
    cases ho
    cases s with
    | no => cases hz
    | d x =>
      obtain ⟨v, ev, hd⟩ := hss
      cases ev
      cases hd with
      | lst g1 g2 =>
        cases (show some _ = some z from hz)
        exact cutL_ok w2 (SqL.of (hid1 g1)) g2 go
      | tup g1 g2 =>
        cases (show some _ = some z from hz)
        exact cutT_ok w2 g1 g2 go
      | _ => cases hz
    | f es =>
      obtain ⟨a', xs, ea, g1, g2⟩ := hss
      cases ea
      cases (show some _ = some z from hz)
      exact cutL_ok w2 (hidL g1) g2 go
    | c j =>
      obtain ⟨a', g1, ea⟩ := hss
      cases ea
      cases q3 : cs2[j]? with
      | none =>
        have hz' : (cs2[j]?).map (fun ds => PyData.list (cutD ds lo hi)) = some z := hz
        rw [q3] at hz'
        cases hz'
      | some ds =>
        have hz' : (cs2[j]?).map (fun ds => PyData.list (cutD ds lo hi)) = some z := hz
        rw [q3] at hz'
        cases hz'
        obtain ⟨a'', g2, xs, g3, g4⟩ := pr_get w2.cel q3
        rw [g1] at g2
        cases g2
        exact cutL_ok w2 (SqL.of g3) g4 go
theorem q_slV {a : Expr} {lo hi : Option Expr} {pos p2 : Pos} {dl dh : DO} (i : Nat) (ha : PE X a (tVar i)) (hl : QO X E lo dl) (hh : QO X E hi dh) : QE X E (.Subscript a (.Slice lo hi none p2) pos) (dSlV i dl dh) := by
  obtain ⟨tl, a1, a2⟩ := hl.ex
  obtain ⟨th, b1, b2⟩ := hh.ex
  exact ⟨_, pe_slice sl2 ha a1 b1, se_slV i a2 b2⟩
/-- e[lo:hi] -/
def dSl (da : DE) (dl dh : DO) : DE := fun ρ cs Ed Q => da ρ cs Ed fun x cs0 => dl ρ cs0 Ed fun lo cs1 => dh ρ cs1 Ed fun hi cs2 => match x with
  | .tuple ds => Q (.tuple (cutD ds lo hi)) cs2
  | .list ds => Q (.list (cutD ds lo hi)) cs2
  | _ => False
theorem se_sl {ta : TE} {tl th : TO} {da : DE} {dl dh : DO} (ha : SE K E ta da) (hl : SO K E tl dl) (hh : SO K E th dh) : SE K E (tSl (rSl2 K) ta tl th) (dSl da dl dh) := fun as σ H ρ cs Ed Qd Q w e ek h k =>
  ha as σ H ρ cs Ed _ _ w e ek h fun v H0 x cs0 e0 w0 d0 h0 => hl as σ H0 ρ cs0 Ed _ _ w0 (e.ext e0) (ek.ext e0) h0 fun lo H1 cs1 e1 w1 h1 => hh as σ H1 ρ cs1 Ed _ _ w1 ((e.ext e0).ext e1) ((ek.ext e0).ext e1) h1 fun hi H2 cs2 e2 w2 h2 => by
    have d0' := d0.mono (e1.trans e2).hid
    cases d0' with
    | lst g1 g2 => exact cutL_ok w2 (SqL.of (hid1 g1)) g2 fun v H' s d => k v H' _ cs2 (((e0.trans e1).trans e2).trans (Ext.of s)) (w2.grow s) d h2
    | tup g1 g2 => exact cutT_ok w2 g1 g2 fun v H' s d => k v H' _ cs2 (((e0.trans e1).trans e2).trans (Ext.of s)) (w2.grow s) d h2
    | _ => exact h2.elim
theorem q_sl {a : Expr} {lo hi : Option Expr} {pos p2 : Pos} {da : DE} {dl dh : DO} (ha : QE X E a da) (hl : QO X E lo dl) (hh : QO X E hi dh) : QE X E (.Subscript a (.Slice lo hi none p2) pos) (dSl da dl dh) := by
  obtain ⟨ta, c1, c2⟩ := ha.ex
  obtain ⟨tl, a1, a2⟩ := hl.ex
  obtain ⟨th, b1, b2⟩ := hh.ex
  exact ⟨_, pe_slice sl2 c1 a1 b1, se_sl c2 a2 b2⟩
end
end Kp

namespace Kp
open PySem PySem.Spec PyProof.Rows L2
section
variable {K : Frag} {E : XK} {X : Cx}
/-! ### arguments -/
def dNil : DA := fun _ cs _ Q => Q [] cs
def dCons (da : DE) (dr : DA) : DA := fun ρ cs Ed Q => da ρ cs Ed fun x cs1 => dr ρ cs1 Ed fun ss cs2 => Q (.d x :: ss) cs2
/-- a name's slot, whatever it is -/
def dConsV (i : Nat) (dr : DA) : DA := fun ρ cs Ed Q => match ρ[i]? with
  | some .no => False
  | some s => dr ρ cs Ed fun ss cs2 => Q (s :: ss) cs2
  | none => False
theorem Ar.ext {as : List Addr} {H H' : Hp} {vs : List V} {ss : List Sl} (e : Ext as H H') (h : Ar K H as vs ss) : Ar K H' as vs ss := pr_map (fun _ _ q => ⟨q.1.ext e.hid, q.2⟩) h
theorem q_nil : QA X E [] dNil := ⟨_, pa_nil, fun as σ H ρ cs Ed Qd Q w e ek h k => k [] H [] cs Ext.refl w .nil h⟩
theorem q_cons {e : Expr} {es : List Expr} {da : DE} {dr : DA} (ha : QE X E e da) (hr : QA X E es dr) (hs : starEach (e :: es) X.env = (false, eval e X.env) :: starEach es X.env := by rfl) : QA X E (e :: es) (dCons da dr) := by
  obtain ⟨ta, a1, a2⟩ := ha.ex
  obtain ⟨tr, b1, b2⟩ := hr.ex
  refine ⟨_, pa_cons a1 b1 hs, fun as σ H ρ cs Ed Qd Q w e ek h k => a2 as σ H ρ cs Ed _ _ w e ek h fun v H1 x cs1 e1 w1 d1 h1 => b2 as σ H1 ρ cs1 Ed _ _ w1 (e.ext e1) (ek.ext e1) h1 fun vs H2 ss cs2 e2 w2 d2 h2 => ?_⟩
  exact k _ H2 _ cs2 (e1.trans e2) w2 (.cons ⟨(show SlOk X.K H2 as (some v) (.d x) from ⟨v, rfl, d1.mono e2.hid⟩), fun z => by cases z⟩ d2) h2
theorem q_consV {e : Expr} {es : List Expr} {dr : DA} (i : Nat) (ha : PE X e (tVar i)) (hr : QA X E es dr) (hs : starEach (e :: es) X.env = (false, eval e X.env) :: starEach es X.env := by rfl) : QA X E (e :: es) (dConsV i dr) := by
  obtain ⟨tr, b1, b2⟩ := hr.ex
  refine ⟨_, pa_cons ha b1 hs, fun as σ H ρ cs Ed Qd Q w e ek h k => ?_⟩
  have h0 : (match ρ[i]? with | some .no => False | some s => dr ρ cs Ed (fun ss cs2 => Qd (s :: ss) cs2) | none => False) := h
  cases q : ρ[i]? with
  | none => rw [q] at h0; exact h0.elim
  | some s =>
    rw [q] at h0
    have hn : s ≠ .no := fun z => by subst z; exact h0
    have h1 : dr ρ cs Ed (fun ss cs2 => Qd (s :: ss) cs2) := by
      cases s with
      | no => exact h0.elim
      | _ => exact h0
    obtain ⟨o, ho, hs⟩ := pr_get e q
    obtain ⟨v, rfl⟩ : ∃ v, o = some v := by
      cases s with
      | no => exact absurd rfl hn
      | d x => obtain ⟨v, e, _⟩ := hs; exact ⟨v, e⟩
      | c j => obtain ⟨a, _, e⟩ := hs; exact ⟨_, e⟩
      | f ds => obtain ⟨a, _, e, _⟩ := hs; exact ⟨_, e⟩
    exact ⟨v, ho, b2 as σ H ρ cs Ed _ _ w e ek h1 fun vs H2 ss cs2 e2 w2 d2 h2 => k _ H2 _ cs2 e2 w2 (.cons ⟨hs.ext e2.hid, hn⟩ d2) h2⟩
/-- all of them data -/
def allD : List Sl → Option (List PyData)
  | [] => some []
  | .d x :: r => (allD r).map (x :: ·)
  | _ :: _ => none
theorem allD_ok {as : List Addr} {H : Hp} : ∀ {vs : List V} {ss : List Sl} {ds : List PyData}, Ar K H as vs ss → allD ss = some ds → DqAll K (hid H as) vs ds
  | [], [], ds, _, e => by cases (show some [] = some ds from e); exact .nil
  | _ :: _, s :: r, ds, .cons h t, e => by
    cases s with
    | d x =>
      have e2 : (allD r).map (x :: ·) = some ds := e
      cases q : allD r with
      | none => rw [q] at e2; cases e2
      | some es =>
        rw [q] at e2
        cases e2
        obtain ⟨v, e3, h3⟩ := h.1
        cases e3
        exact .cons h3 (allD_ok t q)
    | _ => cases e
/-! ### displays -/
def dTup (da : DA) : DE := fun ρ cs Ed Q => da ρ cs Ed fun ss cs1 => match allD ss with
  | some ds => ds.length ≤ sizeLine ∧ Q (.tuple ds) cs1
  | none => False
def dLst (da : DA) : DE := fun ρ cs Ed Q => da ρ cs Ed fun ss cs1 => match allD ss with
  | some ds => ds.length ≤ sizeLine ∧ Q (.list ds) cs1
  | none => False
theorem q_tup {es : List Expr} {x1 : Nat} {pos : Pos} {da : DA} (ha : QA X E es da) : QE X E (.Tuple es x1 pos) (dTup da) := by
  obtain ⟨ta, a1, a2⟩ := ha.ex
  refine ⟨_, pe_tup a1, fun as σ H ρ cs Ed Qd Q w e ek h k => a2 as σ H ρ cs Ed _ _ w e ek h fun vs H1 ss cs1 e1 w1 d1 h1 => ?_⟩
  cases q : allD ss with
  | none => rw [q] at h1; exact h1.elim
  | some ds =>
    rw [q] at h1
    have d2 := allD_ok d1 q
    exact ⟨by rw [d2.len]; exact h1.1, fun p hp => k _ _ _ cs1 (e1.trans (Ext.of (Same.new hp))) (w1.grow (Same.new hp)) (.tup (SqT.of (hid_new (w1.fresh hp))) (d2.mono (new_mono hp))) h1.2⟩
theorem q_lst {es : List Expr} {pos : Pos} {da : DA} (ha : QA X E es da) : QE X E (.List es pos) (dLst da) := by
  obtain ⟨ta, a1, a2⟩ := ha.ex
  refine ⟨_, pe_lst a1, fun as σ H ρ cs Ed Qd Q w e ek h k => a2 as σ H ρ cs Ed _ _ w e ek h fun vs H1 ss cs1 e1 w1 d1 h1 => ?_⟩
  cases q : allD ss with
  | none => rw [q] at h1; exact h1.elim
  | some ds =>
    rw [q] at h1
    have d2 := allD_ok d1 q
    exact ⟨by rw [d2.len]; exact h1.1, fun p hp => k _ _ _ cs1 (e1.trans (Ext.of (Same.new hp))) (w1.grow (Same.new hp)) (.lst (hid_new (w1.fresh hp)) (d2.mono (new_mono hp))) h1.2⟩

/-! ### calls of defs: a promise over data -/
abbrev FD := List Sl → CS → XD → (PyData → CS → Prop) → Prop
def spD (K : Frag) (f : FD) : Sp := fun vs H Q E => ∃ (as : List Addr) (ss : List Sl) (cs : CS) (Ed : XD) (Qd : PyData → CS → Prop), Wk K H as cs ∧ Ar K H as vs ss ∧ EK K E Ed as H ∧ f ss cs Ed Qd ∧
  ∀ v H' x cs', Ext as H H' → Wk K H' as cs' → Dq K (hid H' as) v x → Qd x cs' → Q v H'
/-- a def of the text that keeps such a promise -/
structure Cal (P : Program) (w : World) (K : Frag) (mg : Str → Option Value) (base : Heap) (k : Nat) (name : Str) (ps : List Str) (f : FD) : Prop where
  ex : ∃ (a : Addr) (fd : FuncData), mg name = some (.ref a) ∧ PySem.W.keepIn K (.ref a) = true ∧ FnOk P w K mg base (L2.CX P w) k a fd ps (spD K f) ∧ Binds K fd ps []
def dCall (f : FD) (da : DA) : DE := fun ρ cs Ed Q => da ρ cs Ed fun ss cs1 => f ss cs1 Ed Q
theorem se_call {f : FD} {ta : TA} {da : DA} (ha : SA K E ta da) : SE K E (tCall (spD K f) [] E ta) (dCall f da) := fun as σ H ρ cs Ed Qd Q w e ek h k =>
  ha as σ H ρ cs Ed _ _ w e ek h fun vs H1 ss cs1 e1 w1 d1 h1 => ⟨as, ss, cs1, Ed, Qd, w1, by rw [List.append_nil]; exact d1, ek.ext e1, h1, fun v H' x cs' e2 w2 d2 h2 => k v H' x cs' (e1.trans e2) w2 d2 h2⟩
theorem q_call {k : Nat} {name : Str} {ps : List Str} {f : FD} {e : Expr} {es : List Expr} {p pos : Pos} {da : DA} (F : Cal X.prog X.w X.K X.mg X.base k name ps f) (hr : Room k X.A) (hx : Passes (L2.CX X.prog X.w) X E) (ha : QA X E (e :: es) da)
    (hg : Gl X name := by rfl) (hdb : (name == ("__debug__" : Str)) = false := by decide) (he : starEach (e :: es) X.env = (false, eval e X.env) :: starEach es X.env := by rfl) (hpl : (backTo pos (starEach es X.env)).any (·.1) = false := by rfl) :
    QE X E (.Call (.Name name p) (e :: es) [] pos) (dCall f da) := by
  obtain ⟨a, fd, h1, h2, h3, h4⟩ := F.ex
  obtain ⟨ta, a1, a2⟩ := ha.ex
  exact ⟨_, pe_call h3 hr hg h1 h2 h4 .nil hx a1 hdb he hpl, se_call a2⟩

/-! ### calls of built-ins on data -/
abbrev RC := List PyData → (PyData → Prop) → Prop
def SC (K : Frag) (r : List V → Hp → VK → Prop) (rc : RC) : Prop := ∀ (as : List Addr) (H : Hp) (cs : CS) (vs : List V) (ds : List PyData) (Qd : PyData → Prop) (Q : VK), Wk K H as cs → DqAll K (hid H as) vs ds → rc ds Qd →
  (∀ w H' z, Same H H' → Dq K (hid H' as) w z → Qd z → Q w H') → r vs H Q
def dCB (rc : RC) (da : DA) : DE := fun ρ cs Ed Q => da ρ cs Ed fun ss cs1 => match allD ss with
  | some ds => rc ds fun z => Q z cs1
  | none => False
theorem se_cb {r : List V → Hp → VK → Prop} {rc : RC} {ta : TA} {da : DA} (hr : SC K r rc) (ha : SA K E ta da) : SE K E (tCB r ta) (dCB rc da) := fun as σ H ρ cs Ed Qd Q w e ek h k =>
  ha as σ H ρ cs Ed _ _ w e ek h fun vs H1 ss cs1 e1 w1 d1 h1 => by
    cases q : allD ss with
    | none => rw [q] at h1; exact h1.elim
    | some ds =>
      rw [q] at h1
      exact hr as H1 cs1 vs ds _ _ w1 (allD_ok d1 q) h1 fun z H2 zz s d hq => k z H2 zz cs1 (e1.trans (Ext.of s)) (w1.grow s) d hq
theorem q_cb {id : String} {r : List V → Hp → VK → Prop} {rc : RC} {x : Str} {e : Expr} {es : List Expr} {p pos : Pos} {da : DA} (hc : CallR X (.builtin id) r) (hr : SC X.K r rc) (hm : X.mg x = none) (hv : bootBuiltins x = some (.builtin id)) (ha : QA X E (e :: es) da)
    (hg : Gl X x := by rfl) (hn : x ≠ "__name__" := by decide) (hdb : (x == ("__debug__" : Str)) = false := by decide)
    (he : starEach (e :: es) X.env = (false, eval e X.env) :: starEach es X.env := by rfl) (hpl : (backTo pos (starEach es X.env)).any (·.1) = false := by rfl) : QE X E (.Call (.Name x p) (e :: es) [] pos) (dCB rc da) := by
  obtain ⟨ta, a1, a2⟩ := ha.ex
  exact ⟨_, pe_callB hc hg hm hv a1 hn hdb he hpl, se_cb hr a2⟩
theorem q_ct {T : String} {r : List V → Hp → VK → Prop} {rc : RC} {x : Str} {e : Expr} {es : List Expr} {p pos : Pos} {da : DA} (hc : CallR X (.type T) r) (hr : SC X.K r rc) (hm : X.mg x = none) (hv : bootBuiltins x = some (.type T)) (ha : QA X E (e :: es) da)
    (hg : Gl X x := by rfl) (hn : x ≠ "__name__" := by decide) (hdb : (x == ("__debug__" : Str)) = false := by decide)
    (he : starEach (e :: es) X.env = (false, eval e X.env) :: starEach es X.env := by rfl) (hpl : (backTo pos (starEach es X.env)).any (·.1) = false := by rfl) : QE X E (.Call (.Name x p) (e :: es) [] pos) (dCB rc da) := by
  obtain ⟨ta, a1, a2⟩ := ha.ex
  exact ⟨_, pe_callTy hc hg hm hv a1 hn hdb he hpl, se_cb hr a2⟩
def cAbs : RC := fun ds Q => match ds with
  | [.int i] => Q (.int (if i < 0 then -i else i))
  | _ => False
def cMin2 : RC := fun ds Q => match ds with
  | [.int i, .int j] => Q (.int (if j < i then j else i))
  | _ => False
def cMax2 : RC := fun ds Q => match ds with
  | [.int i, .int j] => Q (.int (if j > i then j else i))
  | _ => False
def cInt : RC := fun ds Q => match ds with
  | [.int i] => Q (.int i)
  | [.bool b] => Q (.int (if b then 1 else 0))
  | _ => False
def cLen : RC := fun ds Q => match ds with
  | [.list xs] => Q (.int xs.length)
  | [.tuple xs] => Q (.int xs.length)
  | _ => False
def cTuple : RC := fun ds Q => match ds with
  | [.list xs] => Q (.tuple xs)
  | [.tuple xs] => Q (.tuple xs)
  | _ => False
def cList : RC := fun ds Q => match ds with
  | [.list xs] => Q (.list xs)
  | [.tuple xs] => Q (.list xs)
  | _ => False
theorem sc_abs : SC K (fun xs H Q => ∃ i, xs = [V.int i] ∧ Q (.int (if i < 0 then -i else i)) H) cAbs := fun as H cs vs ds Qd Q w d h k => by
  match ds, d with
  | [.int i], .cons (.int _) .nil => exact ⟨i, rfl, k _ H _ (Same.refl H) (.int _) h⟩
theorem sc_min2 : SC K (fun xs H Q => ∃ i j, xs = [V.int i, V.int j] ∧ Q (.int (if j < i then j else i)) H) cMin2 := fun as H cs vs ds Qd Q w d h k => by
  match ds, d with
  | [.int i, .int j], .cons (.int _) (.cons (.int _) .nil) => exact ⟨i, j, rfl, k _ H _ (Same.refl H) (.int _) h⟩
theorem sc_max2 : SC K (fun xs H Q => ∃ i j, xs = [V.int i, V.int j] ∧ Q (.int (if j > i then j else i)) H) cMax2 := fun as H cs vs ds Qd Q w d h k => by
  match ds, d with
  | [.int i, .int j], .cons (.int _) (.cons (.int _) .nil) => exact ⟨i, j, rfl, k _ H _ (Same.refl H) (.int _) h⟩
theorem sc_int : SC K (fun xs H Q => (∃ i, xs = [V.int i] ∧ Q (.int i) H) ∨ ∃ k, xs = [V.bl k] ∧ Q (.int (if k then 1 else 0)) H) cInt := fun as H cs vs ds Qd Q w d h k => by
  match ds, d with
  | [.int i], .cons (.int _) .nil => exact .inl ⟨i, rfl, k _ H _ (Same.refl H) (.int _) h⟩
  | [.bool b], .cons (.bl _) .nil => exact .inr ⟨b, rfl, k _ H _ (Same.refl H) (.int _) h⟩
theorem sc_len : SC K (fun xs H Q => ∃ p ys, xs = [V.ref p] ∧ (SqL K H p ys ∨ SqT K H p ys) ∧ Q (.int (ys.length : Nat)) H) cLen := fun as H cs vs ds Qd Q w d h k => by
  match ds, d with
  | [.list xs], .cons (.lst h1 h2) .nil => exact ⟨_, _, rfl, .inl (SqL.of (hid1 h1)), k _ H _ (Same.refl H) (.int _) (by rw [h2.len]; exact h)⟩
  | [.tuple xs], .cons (.tup h1 h2) .nil => exact ⟨_, _, rfl, .inr (hidT h1), k _ H _ (Same.refl H) (.int _) (by rw [h2.len]; exact h)⟩
theorem sc_tuple : SC K (fun xs H Q => ∃ p ys, xs = [V.ref p] ∧ ((SqL K H p ys ∧ ∀ l, H l = none → Q (.ref l) (upd H l (.tup ys))) ∨ (SqT K H p ys ∧ Q (.ref p) H))) cTuple := fun as H cs vs ds Qd Q w d h k => by
  match ds, d with
  | [.list xs], .cons (.lst h1 h2) .nil => exact ⟨_, _, rfl, .inl ⟨SqL.of (hid1 h1), fun p hp => k _ _ _ (Same.new hp) (.tup (SqT.of (hid_new (w.fresh hp))) (h2.mono (new_mono hp))) h⟩⟩
  | [.tuple xs], .cons (.tup h1 h2) .nil => exact ⟨_, _, rfl, .inr ⟨hidT h1, k _ H _ (Same.refl H) (.tup h1 h2) h⟩⟩
theorem sc_list : SC K (fun xs H Q => ∃ p ys, xs = [V.ref p] ∧ (SqL K H p ys ∨ SqT K H p ys) ∧ ∀ l, H l = none → Q (.ref l) (upd H l (.lst ys))) cList := fun as H cs vs ds Qd Q w d h k => by
  match ds, d with
  | [.list xs], .cons (.lst h1 h2) .nil => exact ⟨_, _, rfl, .inl (SqL.of (hid1 h1)), fun p hp => k _ _ _ (Same.new hp) (.lst (hid_new (w.fresh hp)) (h2.mono (new_mono hp))) h⟩
  | [.tuple xs], .cons (.tup h1 h2) .nil => exact ⟨_, _, rfl, .inr (hidT h1), fun p hp => k _ _ _ (Same.new hp) (.lst (hid_new (w.fresh hp)) (h2.mono (new_mono hp))) h⟩
/-- len(x), tuple(x), x a name (a cell, the script, data) -/
def dV1 (g : List PyData → PyData) (i : Nat) : DE := fun ρ cs _ Q => ∃ ds, itemsOf cs ρ[i]? = some ds ∧ Q (g ds) cs
theorem q_lenV {a : Expr} {p pos : Pos} (i : Nat) (ha : PE X a (tVar i)) (hm : X.mg "len" = none) (hg : Gl X "len" := by rfl)
    (he : starEach [a] X.env = (false, eval a X.env) :: starEach [] X.env := by rfl) (hpl : (backTo pos (starEach [] X.env)).any (·.1) = false := by rfl) : QE X E (.Call (.Name "len" p) [a] [] pos) (dV1 (fun ds => .int ds.length) i) := by
  refine ⟨_, pe_callB call_len_seq hg hm boot_len (pa_cons ha pa_nil he) (he := he) (hpl := hpl), fun as σ H ρ cs Ed Qd Q w e ek h k => ?_⟩
  obtain ⟨ds, h1, h2⟩ := h
  obtain ⟨a, xs, h3, h4, h5⟩ := slot_items w e h1
  exact ⟨_, h3, a, xs, rfl, h4.imp_right hidT, k _ H _ cs Ext.refl w (.int _) (by rw [h5.len]; exact h2)⟩
theorem boot_tuple' : bootBuiltins "tuple" = some (.type "tuple") := by decide +kernel
theorem boot_list' : bootBuiltins "list" = some (.type "list") := by decide +kernel
theorem q_tupleV {a : Expr} {p pos : Pos} (i : Nat) (ha : PE X a (tVar i)) (hm : X.mg "tuple" = none) (hg : Gl X "tuple" := by rfl)
    (he : starEach [a] X.env = (false, eval a X.env) :: starEach [] X.env := by rfl) (hpl : (backTo pos (starEach [] X.env)).any (·.1) = false := by rfl) : QE X E (.Call (.Name "tuple" p) [a] [] pos) (dV1 PyData.tuple i) := by
  refine ⟨_, pe_callTy call_tuple_of hg hm boot_tuple' (pa_cons ha pa_nil he) (he := he) (hpl := hpl), fun as σ H ρ cs Ed Qd Q w e ek h k => ?_⟩
  obtain ⟨ds, h1, h2⟩ := h
  obtain ⟨a, xs, h3, h4, h5⟩ := slot_items w e h1
  refine ⟨_, h3, a, xs, rfl, ?_⟩
  rcases h4 with h4 | h4
  · exact .inl ⟨h4, fun p hp => k _ _ _ cs (Ext.of (Same.new hp)) (w.grow (Same.new hp)) (.tup (SqT.of (hid_new (w.fresh hp))) (h5.mono (new_mono hp))) h2⟩
  · exact .inr ⟨hidT h4, k _ H _ cs Ext.refl w (.tup h4 h5) h2⟩

/-! ### tests, and, or, not, if -/
def dTB (da : DE) : DT := fun ρ cs Ed Q => da ρ cs Ed fun x cs1 => match x with
  | .bool b => Q b cs1
  | _ => False
theorem q_tv {e : Expr} {da : DE} (ha : QE X E e da) (he : ∀ whole, isTrue e X.env whole = (do let v ← whole; standAt e.pos; holding [v] (truthy v)) := by intro _; rfl) : QT X E e (dTB da) := by
  obtain ⟨ta, a1, a2⟩ := ha.ex
  refine ⟨_, pt_val a1 he, fun as σ H ρ cs Ed Qd Q w e ek h k => a2 as σ H ρ cs Ed _ _ w e ek h fun v H1 x cs1 e1 w1 d1 h1 => ?_⟩
  cases d1 <;> try exact h1.elim
  exact ⟨_, rfl, k _ H1 cs1 e1 w1 h1⟩
theorem q_tcmp {a b : Expr} {op : CmpOp} {pos : Pos} {r : R2} {rd : R2D} {da db : DE} (ho : OpR X (compareOp op) r) (hr : SR X.K r rd) (ha : QE X E a da) (hb : QE X E b db) (hm : behindInMarks op b = false := by first | exact nomark _ | rfl) :
    QT X E (.Compare a [op] [b] pos) (dTB (dOp rd da db)) := by
  obtain ⟨ta, a1, a2⟩ := ha.ex
  obtain ⟨tb, b1, b2⟩ := hb.ex
  refine ⟨_, pt_cmpR ho a1 b1 hm, fun as σ H ρ cs Ed Qd Q w e ek h k => se_op a2 b2 hr as σ H ρ cs Ed _ _ w e ek h fun v H1 x cs1 e1 w1 d1 h1 => ?_⟩
  cases d1 <;> try exact h1.elim
  exact ⟨_, rfl, k _ H1 cs1 e1 w1 h1⟩
def dAnd (da db : DT) : DT := fun ρ cs Ed Q => da ρ cs Ed fun b cs1 => if b = true then db ρ cs1 Ed Q else Q false cs1
def dOr (da db : DT) : DT := fun ρ cs Ed Q => da ρ cs Ed fun b cs1 => if b = true then Q true cs1 else db ρ cs1 Ed Q
def dNot (da : DT) : DT := fun ρ cs Ed Q => da ρ cs Ed fun b cs1 => Q (!b) cs1
theorem st_and {ta tb : TT} {da db : DT} (a2 : ST K E ta da) (b2 : ST K E tb db) : ST K E (tAnd ta tb) (dAnd da db) := fun as σ H ρ cs Ed Qd Q w e ek h k => a2 as σ H ρ cs Ed _ _ w e ek h fun b H1 cs1 e1 w1 h1 => by
  cases b with
  | true => exact iteT (b2 as σ H1 ρ cs1 Ed Qd Q w1 (e.ext e1) (ek.ext e1) (by simpa using h1) fun b H2 cs2 e2 w2 h2 => k b H2 cs2 (e1.trans e2) w2 h2)
  | false => exact iteF (k _ H1 cs1 e1 w1 (by simpa using h1))
theorem st_or {ta tb : TT} {da db : DT} (a2 : ST K E ta da) (b2 : ST K E tb db) : ST K E (tOr ta tb) (dOr da db) := fun as σ H ρ cs Ed Qd Q w e ek h k => a2 as σ H ρ cs Ed _ _ w e ek h fun b H1 cs1 e1 w1 h1 => by
  cases b with
  | false => exact iteF (b2 as σ H1 ρ cs1 Ed Qd Q w1 (e.ext e1) (ek.ext e1) (by simpa using h1) fun b H2 cs2 e2 w2 h2 => k b H2 cs2 (e1.trans e2) w2 h2)
  | true => exact iteT (k _ H1 cs1 e1 w1 (by simpa using h1))
theorem q_and1 {a : Expr} {pos : Pos} {da : DT} (ha : QT X E a da) : QW X E (.BoolOp .And [a] pos) da := by
  obtain ⟨ta, a1, a2⟩ := ha.ex
  exact ⟨_, pw_and1 a1, a2⟩
theorem q_or1 {a : Expr} {pos : Pos} {da : DT} (ha : QT X E a da) : QW X E (.BoolOp .Or [a] pos) da := by
  obtain ⟨ta, a1, a2⟩ := ha.ex
  exact ⟨_, pw_or1 a1, a2⟩
theorem q_and {a b : Expr} {rest : List Expr} {pos : Pos} {da db : DT} (ha : QT X E a da) (hb : QW X E (.BoolOp .And (b :: rest) pos) db) : QW X E (.BoolOp .And (a :: b :: rest) pos) (dAnd da db) := by
  obtain ⟨ta, a1, a2⟩ := ha.ex
  obtain ⟨tb, b1, b2⟩ := hb.ex
  exact ⟨_, pw_and a1 b1, st_and a2 b2⟩
theorem q_or {a b : Expr} {rest : List Expr} {pos : Pos} {da db : DT} (ha : QT X E a da) (hb : QW X E (.BoolOp .Or (b :: rest) pos) db) : QW X E (.BoolOp .Or (a :: b :: rest) pos) (dOr da db) := by
  obtain ⟨ta, a1, a2⟩ := ha.ex
  obtain ⟨tb, b1, b2⟩ := hb.ex
  exact ⟨_, pw_or a1 b1, st_or a2 b2⟩
theorem q_w {e : Expr} {d : DT} (h : QW X E e d) : QT X E e d := by
  obtain ⟨t, a1, a2⟩ := h.ex
  exact ⟨_, a1.pt, a2⟩
theorem q_not {a : Expr} {pos : Pos} {da : DT} (ha : QT X E a da) : QT X E (.UnaryOp .Not a pos) (dNot da) := by
  obtain ⟨ta, a1, a2⟩ := ha.ex
  exact ⟨_, pt_not a1, fun as σ H ρ cs Ed Qd Q w e ek h k => a2 as σ H ρ cs Ed _ _ w e ek h fun b H1 cs1 e1 w1 h1 => k _ H1 cs1 e1 w1 h1⟩
/-- as values -/
def dVand (da db : DE) : DE := fun ρ cs Ed Q => da ρ cs Ed fun x cs1 => match x with
  | .bool b => if b = true then db ρ cs1 Ed Q else Q (.bool false) cs1
  | _ => False
def dVor (da db : DE) : DE := fun ρ cs Ed Q => da ρ cs Ed fun x cs1 => match x with
  | .bool b => if b = true then Q (.bool true) cs1 else db ρ cs1 Ed Q
  | _ => False
def dVnot (da : DE) : DE := fun ρ cs Ed Q => da ρ cs Ed fun x cs1 => match x with
  | .bool b => Q (.bool (!b)) cs1
  | _ => False
theorem q_v1 {op : BoolOp} {a : Expr} {pos : Pos} {da : DE} (ha : QE X E a da) : QE X E (.BoolOp op [a] pos) da := by
  obtain ⟨ta, a1, a2⟩ := ha.ex
  exact ⟨_, pe_one a1, a2⟩
theorem q_vand {a b : Expr} {rest : List Expr} {pos : Pos} {da db : DE} (ha : QE X E a da) (hb : QE X E (.BoolOp .And (b :: rest) pos) db) : QE X E (.BoolOp .And (a :: b :: rest) pos) (dVand da db) := by
  obtain ⟨ta, a1, a2⟩ := ha.ex
  obtain ⟨tb, b1, b2⟩ := hb.ex
  refine ⟨_, pe_and a1 b1, fun as σ H ρ cs Ed Qd Q w e ek h k => a2 as σ H ρ cs Ed _ _ w e ek h fun v H1 x cs1 e1 w1 d1 h1 => ?_⟩
  cases d1 <;> try exact h1.elim
  refine ⟨_, rfl, ?_⟩
  rename_i b
  cases b with
  | true => exact iteT (b2 as σ H1 ρ cs1 Ed Qd Q w1 (e.ext e1) (ek.ext e1) (by simpa using h1) fun v H2 x cs2 e2 w2 d2 h2 => k v H2 x cs2 (e1.trans e2) w2 d2 h2)
  | false => exact iteF (k _ H1 _ cs1 e1 w1 (.bl false) (by simpa using h1))
theorem q_vor {a b : Expr} {rest : List Expr} {pos : Pos} {da db : DE} (ha : QE X E a da) (hb : QE X E (.BoolOp .Or (b :: rest) pos) db) : QE X E (.BoolOp .Or (a :: b :: rest) pos) (dVor da db) := by
  obtain ⟨ta, a1, a2⟩ := ha.ex
  obtain ⟨tb, b1, b2⟩ := hb.ex
  refine ⟨_, pe_or a1 b1, fun as σ H ρ cs Ed Qd Q w e ek h k => a2 as σ H ρ cs Ed _ _ w e ek h fun v H1 x cs1 e1 w1 d1 h1 => ?_⟩
  cases d1 <;> try exact h1.elim
  refine ⟨_, rfl, ?_⟩
  rename_i b
  cases b with
  | false => exact iteF (b2 as σ H1 ρ cs1 Ed Qd Q w1 (e.ext e1) (ek.ext e1) (by simpa using h1) fun v H2 x cs2 e2 w2 d2 h2 => k v H2 x cs2 (e1.trans e2) w2 d2 h2)
  | true => exact iteT (k _ H1 _ cs1 e1 w1 (.bl true) (by simpa using h1))
theorem q_vnot {a : Expr} {pos : Pos} {da : DE} (ha : QE X E a da) : QE X E (.UnaryOp .Not a pos) (dVnot da) := by
  obtain ⟨ta, a1, a2⟩ := ha.ex
  refine ⟨_, pe_not a1, fun as σ H ρ cs Ed Qd Q w e ek h k => a2 as σ H ρ cs Ed _ _ w e ek h fun v H1 x cs1 e1 w1 d1 h1 => ?_⟩
  cases d1 <;> try exact h1.elim
  exact ⟨_, rfl, k _ H1 _ cs1 e1 w1 (.bl _) h1⟩
def dIf (dt : DT) (da db : DE) : DE := fun ρ cs Ed Q => dt ρ cs Ed fun b cs1 => if b = true then da ρ cs1 Ed Q else db ρ cs1 Ed Q
theorem q_if {c a b : Expr} {pos : Pos} {dt : DT} {da db : DE} (hc : QT X E c dt) (ha : QE X E a da) (hb : QE X E b db) : QE X E (.IfExp c a b pos) (dIf dt da db) := by
  obtain ⟨tc, c1, c2⟩ := hc.ex
  obtain ⟨ta, a1, a2⟩ := ha.ex
  obtain ⟨tb, b1, b2⟩ := hb.ex
  refine ⟨_, pe_ifExp c1 a1 b1, fun as σ H ρ cs Ed Qd Q w e ek h k => c2 as σ H ρ cs Ed _ _ w e ek h fun b H1 cs1 e1 w1 h1 => ?_⟩
  cases b with
  | true => exact iteT (a2 as σ H1 ρ cs1 Ed Qd Q w1 (e.ext e1) (ek.ext e1) (by simpa using h1) fun v H2 x cs2 e2 w2 d2 h2 => k v H2 x cs2 (e1.trans e2) w2 d2 h2)
  | false => exact iteF (b2 as σ H1 ρ cs1 Ed Qd Q w1 (e.ext e1) (ek.ext e1) (by simpa using h1) fun v H2 x cs2 e2 w2 d2 h2 => k v H2 x cs2 (e1.trans e2) w2 d2 h2)
/-- a op b op' c -/
def dChain (rd rd' : R2D) (da db dc : DE) : DE := fun ρ cs Ed Q => da ρ cs Ed fun x cs1 => db ρ cs1 Ed fun y cs2 => rd x y fun z => match z with
  | .bool b => if b = true then dc ρ cs2 Ed fun u cs3 => rd' y u fun z' => Q z' cs3 else Q (.bool false) cs2
  | _ => False
theorem q_chain {a b c : Expr} {op op' : CmpOp} {pos : Pos} {r r' : R2} {rd rd' : R2D} {da db dc : DE} (ho : OpR X (compareOp op) r) (hr : SR X.K r rd) (ho' : OpR X (compareOp op') r') (hr' : SR X.K r' rd') (ha : QE X E a da) (hb : QE X E b db) (hc : QE X E c dc)
    (hm : lastMarks [op, op'] [b, c] = false := by with_unfolding_all rfl) : QE X E (.Compare a [op, op'] [b, c] pos) (dChain rd rd' da db dc) := by
  obtain ⟨ta, a1, a2⟩ := ha.ex
  obtain ⟨tb, b1, b2⟩ := hb.ex
  obtain ⟨tc, c1, c2⟩ := hc.ex
  refine ⟨_, pe_chain ho ho' a1 b1 c1 hm, fun as σ H ρ cs Ed Qd Q w e ek h k => a2 as σ H ρ cs Ed _ _ w e ek h fun v H1 x cs1 e1 w1 d1 h1 => b2 as σ H1 ρ cs1 Ed _ _ w1 (e.ext e1) (ek.ext e1) h1 fun u H2 y cs2 e2 w2 d2 h2 => ?_⟩
  refine hr as H2 cs2 v u x y _ _ w2 (d1.mono e2.hid) d2 h2 fun z H3 zz s3 d3 h3 => ?_
  cases d3 <;> try exact h3.elim
  rename_i b
  refine ⟨b, rfl, ?_⟩
  have e3 : Ext as H H3 := (e1.trans e2).trans (Ext.of s3)
  cases b with
  | false => exact iteF (k _ H3 _ cs2 e3 (w2.grow s3) (.bl false) (by simpa using h3))
  | true =>
    refine iteT (c2 as σ H3 ρ cs2 Ed _ _ (w2.grow s3) (e.ext e3) (ek.ext e3) (show dc ρ cs2 Ed _ by simpa using h3) fun u' H4 y' cs4 e4 w4 d4 h4 => ?_)
    exact hr' as H4 cs4 u u' y y' _ _ w4 ((d2.mono (Ext.of (as := as) s3).hid).mono e4.hid) d4 h4 fun z H5 zz s5 d5 h5 => k z H5 zz cs4 ((e3.trans e4).trans (Ext.of s5)) (w4.grow s5) d5 h5
end
end Kp

namespace Kp
open PySem PySem.Spec PyProof.Rows L2

/-! ### statements over data -/
/-- what is wanted behind a statement; nx k: k cells have been made (they stand first); m: the def's own cells so far; rf: a new list handed back -/
structure DN where
  m : Nat
  nx : Nat → List Sl → CS → Prop
  rt : PyData → CS → Prop
  rf : List PyData → CS → Prop
  bk : Nat → List Sl → CS → Prop
  ct : Nat → List Sl → CS → Prop
  ex : XD
def DN.push (k : Nat) (D : DN) : DN where
  m := k + D.m
  nx := fun j ρ cs => D.nx (j + k) ρ cs
  rt := fun x cs => D.rt x (cs.drop k)
  rf := fun x cs => D.rf x (cs.drop k)
  bk := fun j ρ cs => D.bk (j + k) ρ cs
  ct := fun j ρ cs => D.ct (j + k) ρ cs
  ex := fun C cs => D.ex C (cs.drop k)
abbrev DS := DN → List Sl → CS → Prop
/-- k cells stand ahead -/
def shSl (k : Nat) : Sl → Sl
  | .c j => .c (k + j)
  | s => s
/-- the first k cells are data from here on -/
def disSl (k : Nat) (cs : CS) : Sl → Sl
  | .c j => if j < k then (match cs[j]? with | some ds => .d (.list ds) | none => .no) else .c (j - k)
  | s => s
section
variable {K : Frag} {H H' : Hp} {as ex : List Addr} {cs : CS} {σ : L2.St} {ρ : List Sl}
theorem hid_app : Same (hid H (ex ++ as)) (hid H as) := fun b o h => by
  obtain ⟨h1, h2⟩ := hid_of h
  rw [hid_out (fun z => h1 (List.mem_append_right _ z))]
  exact h2
theorem pr_drop {α β : Type} {F : α → β → Prop} : ∀ {l1 l2 : List α} {m : List β}, Paired F (l1 ++ l2) m → Paired F l2 (m.drop l1.length)
  | [], _, _, h => h
  | _ :: l1, l2, _ :: m, .cons _ t => by
    show Paired _ l2 (m.drop l1.length)
    exact pr_drop t
theorem Wk.drop (w : Wk K H (ex ++ as) cs) : Wk K H as (cs.drop ex.length) :=
  ⟨(List.nodup_append.mp w.nd).2.1, pr_map (fun a ds ⟨xs, e, q⟩ => ⟨xs, e, q.mono hid_app⟩) (pr_drop w.cel)⟩
theorem Ev.diss (w : Wk K H (ex ++ as) cs) (e : Ev K H (ex ++ as) σ ρ) : Ev K H as σ (ρ.map (disSl ex.length cs)) := by
  have one : ∀ (o : Option V) (s : Sl), SlOk K H (ex ++ as) o s → SlOk K H as o (disSl ex.length cs s) := fun o s h => by
    cases s with
    | no => trivial
    | d x => obtain ⟨v, h1, h2⟩ := h; exact ⟨v, h1, h2.mono hid_app⟩
    | f ds => obtain ⟨a, xs, h1, h2, h3⟩ := h; exact ⟨a, xs, h1, hid_app.seq h2, h3.mono hid_app⟩
    | c j =>
      obtain ⟨a, h1, h2⟩ := h
      show SlOk K H as o (if j < ex.length then (match cs[j]? with | some ds => .d (.list ds) | none => .no) else .c (j - ex.length))
      by_cases hj : j < ex.length
      · rw [if_pos hj]
        obtain ⟨ds, h3, xs, h4, h5⟩ := pr_get' w.cel h1
        rw [h3]
        refine ⟨_, h2, .lst ?_ (h5.mono hid_app)⟩
        rw [hid_out fun z => ?_]
        · exact h4
        · rw [List.getElem?_append_left hj] at h1
          exact (List.nodup_append.mp w.nd).2.2 a (List.mem_of_getElem? h1) a z rfl
      · rw [if_neg hj]
        rw [List.getElem?_append_right (by omega)] at h1
        exact ⟨a, h1, h2⟩
  have go : ∀ {l : List (Option V)} {m : List Sl}, Paired (SlOk K H (ex ++ as)) l m → Paired (SlOk K H as) l (m.map (disSl ex.length cs)) := fun {l m} h => by
    induction h with
    | nil => exact .nil
    | cons r _ ih => exact .cons (one _ _ r) ih
  exact go e
/-- new cells ahead: the slots -/
theorem Ev.sh (hf : ∀ p ∈ ex, H p = none) (e : Ev K H as σ ρ) (s : Ext as H H') : Ev K H' (ex ++ as) σ (ρ.map (shSl ex.length)) := by
  have same : Same (hid H as) (hid H' (ex ++ as)) := fun b o h => by
    obtain ⟨h1, h2⟩ := hid_of h
    rw [hid_out fun z => (List.mem_append.mp z).elim (fun q => by rw [hf b q] at h2; cases h2) h1]
    exact s b o h1 h2
  have one : ∀ (o : Option V) (sl : Sl), SlOk K H as o sl → SlOk K H' (ex ++ as) o (shSl ex.length sl) := fun o sl h => by
    cases sl with
    | no => trivial
    | d x => obtain ⟨v, h1, h2⟩ := h; exact ⟨v, h1, h2.mono same⟩
    | f ds => obtain ⟨a, xs, h1, h2, h3⟩ := h; exact ⟨a, xs, h1, same.seq h2, h3.mono same⟩
    | c j =>
      obtain ⟨a, h1, h2⟩ := h
      refine ⟨a, ?_, h2⟩
      rw [List.getElem?_append_right (by omega)]
      rw [show ex.length + j - ex.length = j by omega]
      exact h1
  have go : ∀ {l : List (Option V)} {m : List Sl}, Paired (SlOk K H as) l m → Paired (SlOk K H' (ex ++ as)) l (m.map (shSl ex.length)) := fun {l m} h => by
    induction h with
    | nil => exact .nil
    | cons r _ ih => exact .cons (one _ _ r) ih
  exact go e
/-- fresh ahead is fresh before -/
theorem fresh_of (w : Wk K H' as cs) (e : Ext as H H') {p : Addr} (h : H' p = none) : H p = none := by
  cases q : H p with
  | none => rfl
  | some o =>
    have n : p ∉ as := w.fresh h
    rw [e p o n q] at h
    cases h
end

structure Sim (K : Frag) (as : List Addr) (H : Hp) (D : Ends) (Dd : DN) : Prop where
  nx : ∀ ex σ' H' ρ' cs', (∀ p ∈ ex, H p = none) → Ext as H H' → Wk K H' (ex ++ as) cs' → Ev K H' (ex ++ as) σ' ρ' → Dd.nx ex.length ρ' cs' → D.nx σ' H'
  bk : ∀ ex σ' H' ρ' cs', (∀ p ∈ ex, H p = none) → Ext as H H' → Wk K H' (ex ++ as) cs' → Ev K H' (ex ++ as) σ' ρ' → Dd.bk ex.length ρ' cs' → D.bk σ' H'
  ct : ∀ ex σ' H' ρ' cs', (∀ p ∈ ex, H p = none) → Ext as H H' → Wk K H' (ex ++ as) cs' → Ev K H' (ex ++ as) σ' ρ' → Dd.ct ex.length ρ' cs' → D.ct σ' H'
  rt : ∀ v H' x cs', Ext as H H' → Wk K H' as cs' → Dq K (hid H' (as.drop Dd.m)) v x → Dd.rt x cs' → D.rt v H'
  rf : ∀ p H' ds cs', Ext as H H' → (H p = none ∨ p ∈ as.take Dd.m) → Wk K H' (p :: as.drop Dd.m) (ds :: cs'.drop Dd.m) → Dd.rf ds cs' → D.rt (.ref p) H'

def SS (K : Frag) (E : XK) (t : TS) (d : DS) : Prop := ∀ (as : List Addr) (σ : L2.St) (H : Hp) (ρ : List Sl) (cs : CS) (D : Ends) (Dd : DN),
  Wk K H as cs → Ev K H as σ ρ → EK K E Dd.ex as H → d Dd ρ cs → Sim K as H D Dd → t D σ H
structure QS (X : Cx) (E : XK) (s : Stmt) (d : DS) : Prop where
  ex : ∃ t, PS X s t ∧ SS X.K E t d
structure QSs (X : Cx) (E : XK) (s : List Stmt) (d : DS) : Prop where
  ex : ∃ t, PSs X s t ∧ SS X.K E t d

section
variable {K : Frag} {E : XK}
/-- the same, seen from further on, without new cells -/
theorem Sim.ext {as : List Addr} {H H' : Hp} {cs : CS} {D : Ends} {Dd : DN} (S : Sim K as H D Dd) (w : Wk K H' as cs) (e : Ext as H H') : Sim K as H' D Dd :=
  ⟨fun ex σ' H2 ρ' cs' hf e2 w2 ev q => S.nx ex σ' H2 ρ' cs' (fun p hp => fresh_of w e (hf p hp)) (e.trans e2) w2 ev q,
   fun ex σ' H2 ρ' cs' hf e2 w2 ev q => S.bk ex σ' H2 ρ' cs' (fun p hp => fresh_of w e (hf p hp)) (e.trans e2) w2 ev q,
   fun ex σ' H2 ρ' cs' hf e2 w2 ev q => S.ct ex σ' H2 ρ' cs' (fun p hp => fresh_of w e (hf p hp)) (e.trans e2) w2 ev q,
   fun v H2 x cs' e2 w2 d q => S.rt v H2 x cs' (e.trans e2) w2 d q,
   fun p H2 ds cs' e2 f w2 q => S.rf p H2 ds cs' (e.trans e2) (f.imp_left (fresh_of w e)) w2 q⟩
/-- .. behind new cells -/
theorem Ext.cut {as ex : List Addr} {H H1 H2 : Hp} (hf : ∀ p ∈ ex, H p = none) (e : Ext as H H1) (e2 : Ext (ex ++ as) H1 H2) : Ext as H H2 := fun b o h q =>
  e2 b o (fun z => (List.mem_append.mp z).elim (fun r => by rw [hf b r] at q; cases q) h) (e b o h q)
theorem Sim.push {as ex : List Addr} {H H' : Hp} {cs : CS} {D : Ends} {Dd : DN} (S : Sim K as H D Dd) (hf : ∀ p ∈ ex, H p = none) (w : Wk K H' (ex ++ as) cs) (e : Ext as H H') : Sim K (ex ++ as) H' D (Dd.push ex.length) := by
  have fr : ∀ p, H' p = none → H p = none := fun p hp => fresh_of w.drop e hp
  have dr : (ex ++ as).drop (ex.length + Dd.m) = as.drop Dd.m := by
    rw [← List.drop_drop, List.drop_left]
  have fx : ∀ {ex2 : List Addr}, (∀ p ∈ ex2, H' p = none) → ∀ p ∈ ex2 ++ ex, H p = none := fun h2 p hp => (List.mem_append.mp hp).elim (fun z => fr p (h2 p z)) (hf p)
  refine ⟨fun ex2 σ' H2 ρ' cs' hf2 e2 w2 ev q => ?_, fun ex2 σ' H2 ρ' cs' hf2 e2 w2 ev q => ?_, fun ex2 σ' H2 ρ' cs' hf2 e2 w2 ev q => ?_, fun v H2 x cs' e2 w2 d q => ?_, fun p H2 ds cs' e2 f w2 q => ?_⟩
  · rw [← List.append_assoc] at w2 ev
    exact S.nx (ex2 ++ ex) σ' H2 ρ' cs' (fx hf2) (e.cut hf e2) w2 ev (by rw [List.length_append]; exact q)
  · rw [← List.append_assoc] at w2 ev
    exact S.bk (ex2 ++ ex) σ' H2 ρ' cs' (fx hf2) (e.cut hf e2) w2 ev (by rw [List.length_append]; exact q)
  · rw [← List.append_assoc] at w2 ev
    exact S.ct (ex2 ++ ex) σ' H2 ρ' cs' (fx hf2) (e.cut hf e2) w2 ev (by rw [List.length_append]; exact q)
  · have d' : Dq K (hid H2 ((ex ++ as).drop (ex.length + Dd.m))) v x := d
    rw [dr] at d'
    exact S.rt v H2 x _ (e.cut hf e2) w2.drop d' q
  · have w3 : Wk K H2 (p :: (ex ++ as).drop (ex.length + Dd.m)) (ds :: cs'.drop (ex.length + Dd.m)) := w2
    rw [dr, ← List.drop_drop] at w3
    refine S.rf p H2 ds _ (e.cut hf e2) ?_ w3 q
    rcases f with f | f
    · exact .inl (fr p f)
    · have f2 : p ∈ (ex ++ as).take (ex.length + Dd.m) := f
      rw [List.take_length_add_append] at f2
      exact (List.mem_append.mp f2).elim (fun z => .inl (hf p z)) .inr
theorem EK.push {as ex : List Addr} {H H' : Hp} {Dd : DN} (h : EK K E Dd.ex as H) (hf : ∀ p ∈ ex, H p = none) (e : Ext as H H') : EK K E (Dd.push ex.length).ex (ex ++ as) H' := fun C H2 cs2 e2 w2 q =>
  h C H2 _ (e.cut hf e2) w2.drop q

/-! ### blocks -/
def dSeq (d1 d2 : DS) : DS := fun Dd ρ cs => d1 { Dd with nx := fun k ρ' cs' => d2 (Dd.push k) ρ' cs' } ρ cs
def dNext : DS := fun Dd ρ cs => Dd.nx 0 ρ cs
theorem ss_seq {t u : TS} {d1 d2 : DS} (h1 : SS K E t d1) (h2 : SS K E u d2) : SS K E (tSeq t u) (dSeq d1 d2) := fun as σ H ρ cs D Dd w ev ek h S => by
  refine h1 as σ H ρ cs { D with nx := u D } { Dd with nx := fun k ρ' cs' => d2 (Dd.push k) ρ' cs' } w ev ek h ⟨fun ex σ' H' ρ' cs' hf e w' ev' q => ?_, S.bk, S.ct, S.rt, S.rf⟩
  exact h2 (ex ++ as) σ' H' ρ' cs' D (Dd.push ex.length) w' ev' (ek.push hf e) q (S.push hf w' e)
theorem ss_next : SS K E tNext dNext := fun as σ H ρ cs D Dd w ev ek h S => S.nx [] σ H ρ cs (fun _ z => nomatch z) Ext.refl w ev h
variable {X : Cx}
theorem q_snil : QSs X E [] dNext := ⟨_, pss_nil, ss_next⟩
theorem q_scons {s : Stmt} {r : List Stmt} {d1 d2 : DS} (h1 : QS X E s d1) (h2 : QSs X E r d2) : QSs X E (s :: r) (dSeq d1 d2) := by
  obtain ⟨t, a1, a2⟩ := h1.ex
  obtain ⟨u, b1, b2⟩ := h2.ex
  exact ⟨_, pss_cons a1 b1, ss_seq a2 b2⟩
theorem q_sone {s : Stmt} {d : DS} (h1 : QS X E s d) : QSs X E [s] d := by
  obtain ⟨t, a1, a2⟩ := h1.ex
  exact ⟨_, pss_one a1, a2⟩
def dNever : DS := fun _ _ _ => False
theorem q_never {s : Stmt} : QS X E s dNever := ⟨_, ps_never, fun _ _ _ _ _ _ _ _ _ _ h _ => h.elim⟩
theorem q_pass {pos : Pos} : QS X E (.Pass pos) dNext := ⟨_, ps_pass, ss_next⟩
def dBrk : DS := fun Dd ρ cs => Dd.bk 0 ρ cs
def dCont : DS := fun Dd ρ cs => Dd.ct 0 ρ cs
theorem q_break {pos : Pos} : QS X E (.Break pos) dBrk := ⟨_, ps_break, fun as σ H ρ cs D Dd w ev ek h S => S.bk [] σ H ρ cs (fun _ z => nomatch z) Ext.refl w ev h⟩
theorem q_cont {pos : Pos} : QS X E (.Continue pos) dCont := ⟨_, ps_continue, fun as σ H ρ cs D Dd w ev ek h S => S.ct [] σ H ρ cs (fun _ z => nomatch z) Ext.refl w ev h⟩
def dDrop (da : DE) : DS := fun Dd ρ cs => da ρ cs Dd.ex fun _ cs1 => Dd.nx 0 ρ cs1
theorem q_expr {e : Expr} {pos : Pos} {da : DE} (ha : QE X E e da) (hs : swapsWith e none pos.line X.env = pure false := by rfl) : QS X E (.Expr e pos) (dDrop da) := by
  obtain ⟨ta, a1, a2⟩ := ha.ex
  exact ⟨_, ps_expr a1 hs, fun as σ H ρ cs D Dd w ev ek h S => a2 as σ H ρ cs Dd.ex _ _ w ev ek h fun v H1 x cs1 e1 w1 d1 h1 => S.nx [] σ H1 ρ cs1 (fun _ z => nomatch z) e1 w1 (ev.ext e1) h1⟩
def dRet (da : DE) : DS := fun Dd ρ cs => da ρ cs Dd.ex fun x cs1 => Dd.rt x cs1
theorem hid_drop {H : Hp} {as : List Addr} (m : Nat) : Same (hid H as) (hid H (as.drop m)) := fun b o h => by
  obtain ⟨h1, h2⟩ := hid_of h
  rw [hid_out fun z => h1 (List.mem_of_mem_drop z)]
  exact h2
theorem q_ret {e : Expr} {pos : Pos} {da : DE} (ha : QE X E e da) : QS X E (.Return (some e) pos) (dRet da) := by
  obtain ⟨ta, a1, a2⟩ := ha.ex
  exact ⟨_, ps_ret a1, fun as σ H ρ cs D Dd w ev ek h S => a2 as σ H ρ cs Dd.ex _ _ w ev ek h fun v H1 x cs1 e1 w1 d1 h1 => S.rt v H1 x cs1 e1 w1 (d1.mono (hid_drop _)) h1⟩
theorem nd_drop {as : List Addr} (h : as.Nodup) {j m : Nat} {a : Addr} (hj : as[j]? = some a) (hm : j < m) : a ∉ as.drop m := fun z => by
  obtain ⟨i, hi⟩ := List.getElem?_of_mem z
  rw [List.getElem?_drop] at hi
  have := nd_ix h hj hi
  omega
theorem pr_dropn {α β : Type} {F : α → β → Prop} : ∀ {l : List α} {m : List β} (n : Nat), Paired F l m → Paired F (l.drop n) (m.drop n)
  | _, _, 0, h => h
  | _, _, _ + 1, .nil => .nil
  | _, _, n + 1, .cons _ t => pr_dropn n t
theorem mem_taken {as : List Addr} {j m : Nat} {a : Addr} (hj : as[j]? = some a) (hm : j < m) : a ∈ as.take m := by
  refine List.mem_of_getElem? (i := j) ?_
  rw [List.getElem?_take_of_lt hm]
  exact hj
/-- return x, x a name: data, or one of the def's own cells -/
def dRetV (i : Nat) : DS := fun Dd ρ cs => match ρ[i]? with
  | some (.d x) => Dd.rt x cs
  | some (.c j) => j < Dd.m ∧ ∃ ds, cs[j]? = some ds ∧ (Dd.rt (.list ds) cs ∨ Dd.rf ds cs)
  | _ => False
theorem q_retV {e : Expr} {pos : Pos} (i : Nat) (ha : PE X e (tVar i)) : QS X E (.Return (some e) pos) (dRetV i) := by
  refine ⟨_, ps_ret ha, fun as σ H ρ cs D Dd w ev ek h S => ?_⟩
  unfold dRetV at h
  cases q : ρ[i]? with
  | none => rw [q] at h; exact h.elim
  | some s =>
    rw [q] at h
    obtain ⟨o, ho, hs⟩ := pr_get ev q
    cases s with
    | no => exact h.elim
    | f ds => exact h.elim
    | d x =>
      obtain ⟨v, rfl, hv⟩ := hs
      exact ⟨v, ho, S.rt v H x cs Ext.refl w (hv.mono (hid_drop _)) h⟩
    | c j =>
      obtain ⟨a, h1, rfl⟩ := hs
      obtain ⟨hm, ds, h2, h3⟩ := h
      obtain ⟨a', h4, xs, h5, h6⟩ := pr_get w.cel h2
      rw [h1] at h4
      cases h4
      have na := nd_drop w.nd h1 hm
      refine ⟨_, ho, ?_⟩
      rcases h3 with h3 | h3
      · exact S.rt _ H _ cs Ext.refl w (.lst (by rw [hid_out na]; exact h5) (h6.mono (hid_drop _))) h3
      · have hs : Same (hid H as) (hid H (a :: as.drop Dd.m)) := fun b o hb => by
          obtain ⟨g1, g2⟩ := hid_of hb
          rw [hid_out fun z => ?_]
          · exact g2
          · rcases List.mem_cons.mp z with z | z
            · rw [z] at g1
              exact g1 (List.mem_of_getElem? h1)
            · exact g1 (List.mem_of_mem_drop z)
        have wd : Paired (CelOk X.K H as) (as.drop Dd.m) (cs.drop Dd.m) := pr_dropn Dd.m w.cel
        refine S.rf a H ds cs Ext.refl (.inr (mem_taken h1 hm)) ⟨List.nodup_cons.mpr ⟨na, w.nd.sublist (List.drop_sublist _ _)⟩, .cons ⟨xs, h5, h6.mono hs⟩ (pr_map (fun b es ⟨ys, y1, y2⟩ => ⟨ys, y1, y2.mono hs⟩) wd)⟩ h3
def dRetN : DS := fun Dd _ cs => Dd.rt .none cs
theorem q_retN {pos : Pos} : QS X E (.Return none pos) dRetN := ⟨_, ps_retN, fun as σ H ρ cs D Dd w ev ek h S => S.rt .non H .none cs Ext.refl w .non h⟩
def dIfS (dt : DT) (d1 d2 : DS) : DS := fun Dd ρ cs => dt ρ cs Dd.ex fun b cs1 => if b = true then d1 Dd ρ cs1 else d2 Dd ρ cs1
theorem q_ifS {c : Expr} {a b : List Stmt} {pos : Pos} {dt : DT} {d1 d2 : DS} (hc : QT X E c dt) (ha : QSs X E a d1) (hb : QSs X E b d2) : QS X E (.If c a b pos) (dIfS dt d1 d2) := by
  obtain ⟨tc, c1, c2⟩ := hc.ex
  obtain ⟨ta, a1, a2⟩ := ha.ex
  obtain ⟨tb, b1, b2⟩ := hb.ex
  refine ⟨_, ps_if c1 a1 b1, fun as σ H ρ cs D Dd w ev ek h S => c2 as σ H ρ cs Dd.ex _ _ w ev ek h fun b H1 cs1 e1 w1 h1 => ?_⟩
  cases b with
  | true => exact iteT (a2 as σ H1 ρ cs1 D Dd w1 (ev.ext e1) (ek.ext e1) (by simpa using h1) (S.ext w1 e1))
  | false => exact iteF (b2 as σ H1 ρ cs1 D Dd w1 (ev.ext e1) (ek.ext e1) (by simpa using h1) (S.ext w1 e1))
/-! ### assignments -/
def dSet (i : Nat) (da : DE) : DS := fun Dd ρ cs => da ρ cs Dd.ex fun x cs1 => Dd.nx 0 (ρ.set i (.d x)) cs1
theorem ev_set {as : List Addr} {σ : L2.St} {H : Hp} {ρ : List Sl} {v : V} {s : Sl} (e : Ev K H as σ ρ) (i : Nat) (h : SlOk K H as (some v) s) : Ev K H as (σ.set i (some v)) (ρ.set i s) := pr_set h i e
theorem q_set {e : Expr} {pos pos' : Pos} {da : DE} {x : Str} (i : Nat) (hN : X.N.Nodup) (ha : QE X E e da) (hi : X.N[i]? = some x := by rfl) (hx : Loc X.env.scope x := by first | exact Or.inl rfl | exact Or.inr rfl) (hs : swapsWith e (some (.Name x pos')) pos.line X.env = pure false := by rfl)
    (hf : X.fn x = true ∨ X.env.scope.names.lookup x = some .local := by first | exact .inl rfl | exact .inr rfl) : QS X E (.Assign [.Name x pos'] e pos) (dSet i da) := by
  obtain ⟨ta, a1, a2⟩ := ha.ex
  exact ⟨_, ps_set hN hi hx a1 hs hf, fun as σ H ρ cs D Dd w ev ek h S => a2 as σ H ρ cs Dd.ex _ _ w ev ek h fun v H1 z cs1 e1 w1 d1 h1 => S.nx [] _ H1 _ cs1 (fun _ q => nomatch q) e1 w1 (ev_set (s := .d z) (ev.ext e1) i ⟨v, rfl, d1⟩) h1⟩
/-- a new list -/
abbrev DL := List Sl → CS → XD → (List PyData → CS → Prop) → Prop
def SN (K : Frag) (E : XK) (t : TE) (d : DL) : Prop := ∀ (as : List Addr) (σ : L2.St) (H : Hp) (ρ : List Sl) (cs : CS) (Ed : XD) (Qd : List PyData → CS → Prop) (Q : VK),
  Wk K H as cs → Ev K H as σ ρ → EK K E Ed as H → d ρ cs Ed Qd → (∀ p H' ds cs', Ext as H H' → H p = none → Wk K H' (p :: as) (ds :: cs') → Qd ds cs' → Q (.ref p) H') → t σ H Q
structure QN (X : Cx) (E : XK) (e : Expr) (d : DL) : Prop where
  ex : ∃ t, PE X e t ∧ SN X.K E t d
theorem hid_cons {H : Hp} {as : List Addr} {p : Addr} : Same (hid H (p :: as)) (hid H as) := hid_app (ex := [p])
def dOfN (d : DL) : DE := fun ρ cs Ed Q => d ρ cs Ed fun ds cs1 => Q (.list ds) cs1
theorem q_ofN {e : Expr} {d : DL} (h : QN X E e d) : QE X E e (dOfN d) := by
  obtain ⟨t, a1, a2⟩ := h.ex
  refine ⟨_, a1, fun as σ H ρ cs Ed Qd Q w ev ek h k => a2 as σ H ρ cs Ed _ _ w ev ek h fun p H' ds cs' e1 hp w1 h1 => ?_⟩
  cases w1.cel with
  | cons c1 c2 =>
    obtain ⟨xs, hp', d1⟩ := c1
    exact k _ H' _ cs' e1 (Wk.drop (ex := [p]) w1) (.lst (by rw [hid_out (w.fresh hp)]; exact hp') (d1.mono hid_cons)) h1
theorem new_cons {H : Hp} {as : List Addr} {p : Addr} {o : HO} (h : H p = none) : Same (hid H as) (hid (upd H p o) (p :: as)) := fun b u q => by
  obtain ⟨h1, h2⟩ := hid_of q
  have nb : b ≠ p := ne_of_none h2 h
  rw [hid_out fun z => (List.mem_cons.mp z).elim nb h1, upd_ne nb]
  exact h2
theorem Wk.newc {H : Hp} {as : List Addr} {cs : CS} {p : Addr} {xs : List V} {ds : List PyData} (w : Wk K H as cs) (hp : H p = none) (d : DqAll K (hid (upd H p (.lst xs)) (p :: as)) xs ds) : Wk K (upd H p (.lst xs)) (p :: as) (ds :: cs) :=
  ⟨List.nodup_cons.mpr ⟨w.fresh hp, w.nd⟩, .cons ⟨xs, upd_same, d⟩ (pr_mapm (fun a es ha ⟨ys, q1, q2⟩ => ⟨ys, (Same.new hp) _ _ q1, q2.mono (new_cons hp)⟩) w.cel)⟩
def dNlst (da : DA) : DL := fun ρ cs Ed Q => da ρ cs Ed fun ss cs1 => match allD ss with
  | some ds => ds.length ≤ sizeLine ∧ Q ds cs1
  | none => False
theorem q_nlst {es : List Expr} {pos : Pos} {da : DA} (ha : QA X E es da) : QN X E (.List es pos) (dNlst da) := by
  obtain ⟨ta, a1, a2⟩ := ha.ex
  refine ⟨_, pe_lst a1, fun as σ H ρ cs Ed Qd Q w e ek h k => a2 as σ H ρ cs Ed _ _ w e ek h fun vs H1 ss cs1 e1 w1 d1 h1 => ?_⟩
  cases q : allD ss with
  | none => rw [q] at h1; exact h1.elim
  | some ds =>
    rw [q] at h1
    have d2 := allD_ok d1 q
    exact ⟨by rw [d2.len]; exact h1.1, fun p hp => k p _ ds cs1 (e1.trans (Ext.of (Same.new hp))) (fresh_of w1 e1 hp) (w1.newc hp (d2.mono (new_cons hp))) h1.2⟩
/-- x = a new list: a cell of one's own -/
def dNew (i : Nat) (d : DL) : DS := fun Dd ρ cs => d ρ cs Dd.ex fun ds cs1 => Dd.nx 1 ((ρ.map (shSl 1)).set i (.c 0)) (ds :: cs1)
theorem q_new {e : Expr} {pos pos' : Pos} {d : DL} {x : Str} (i : Nat) (hN : X.N.Nodup) (ha : QN X E e d) (hi : X.N[i]? = some x := by rfl) (hx : Loc X.env.scope x := by first | exact Or.inl rfl | exact Or.inr rfl) (hs : swapsWith e (some (.Name x pos')) pos.line X.env = pure false := by rfl)
    (hf : X.fn x = true ∨ X.env.scope.names.lookup x = some .local := by first | exact .inl rfl | exact .inr rfl) : QS X E (.Assign [.Name x pos'] e pos) (dNew i d) := by
  obtain ⟨ta, a1, a2⟩ := ha.ex
  refine ⟨_, ps_set hN hi hx a1 hs hf, fun as σ H ρ cs D Dd w ev ek h S => a2 as σ H ρ cs Dd.ex _ _ w ev ek h fun p H1 ds cs1 e1 hp w1 h1 => ?_⟩
  have hf1 : ∀ q ∈ [p], H q = none := fun q hq => by rw [List.mem_singleton.mp hq]; exact hp
  exact S.nx [p] _ H1 _ (ds :: cs1) hf1 e1 w1 (ev_set (s := .c 0) (Ev.sh hf1 ev e1) i ⟨p, rfl, rfl⟩) h1
end
end Kp

namespace Kp
open PySem PySem.Spec PyProof.Rows L2
section
variable {K : Frag} {E : XK} {X : Cx}
/-! ### cells change -/
theorem hid_upd {H : Hp} {as : List Addr} {a : Addr} {o : HO} (h : a ∈ as) : hid (upd H a o) as = hid H as := by
  funext b
  unfold hid
  by_cases q : b ∈ as
  · rw [if_pos q, if_pos q]
  · rw [if_neg q, if_neg q, upd_ne (fun z => q (by rw [z]; exact h))]
theorem ext_upd {H : Hp} {as : List Addr} {a : Addr} {o : HO} (h : a ∈ as) : Ext as H (upd H a o) := fun b u nb e => by
  rw [upd_ne fun z => nb (by rw [z]; exact h)]
  exact e
theorem Wk.put {H : Hp} {as : List Addr} {cs : CS} {a : Addr} {j : Nat} {xs : List V} {ds : List PyData} (w : Wk K H as cs) (hj : as[j]? = some a) (d : DqAll K (hid H as) xs ds) : Wk K (upd H a (.lst xs)) as (cs.set j ds) := by
  have ha : a ∈ as := List.mem_of_getElem? hj
  refine ⟨w.nd, ?_⟩
  have go : ∀ {l : List Addr} {m : CS} (i : Nat), l.Nodup → Paired (CelOk K H as) l m → l[i]? = some a → Paired (CelOk K (upd H a (.lst xs)) as) l (m.set i ds) := by
    intro l
    induction l with
    | nil => intro m i _ _ e; simp at e
    | cons b r ih =>
      intro m i hn h e
      cases h with
      | cons c t =>
        obtain ⟨n1, n2⟩ := List.nodup_cons.mp hn
        cases i with
        | zero =>
          have eb : b = a := by simpa using e
          subst eb
          refine .cons ⟨xs, upd_same, by rw [hid_upd ha]; exact d⟩ (pr_mapm (fun q es hq ⟨ys, y1, y2⟩ => ⟨ys, ?_, by rw [hid_upd ha]; exact y2⟩) t)
          rw [upd_ne fun z => n1 (by rw [← z]; exact hq)]
          exact y1
        | succ i =>
          have e' : r[i]? = some a := by simpa using e
          obtain ⟨ys, y1, y2⟩ := c
          refine .cons ⟨ys, ?_, by rw [hid_upd ha]; exact y2⟩ (ih i n2 t e')
          rw [upd_ne fun z => n1 (by rw [z]; exact List.mem_of_getElem? e')]
          exact y1
  exact go j w.nd w.cel hj
/-- x[e] = e', x a name of a cell -/
def dStore (i : Nat) (di dv : DE) : DS := fun Dd ρ cs => dv ρ cs Dd.ex fun x cs1 => match ρ[i]? with
  | some (.c j) => di ρ cs1 Dd.ex fun y cs2 => match y with
    | .int n => ∃ ds k, cs2[j]? = some ds ∧ ixN ds.length n = some k ∧ Dd.nx 0 ρ (cs2.set j (ds.set k x))
    | _ => False
  | _ => False
theorem q_store {o ie e : Expr} {pos p2 : Pos} {di dv : DE} (i : Nat) (ho : PE X o (tVar i)) (hi : QE X E ie di) (hv : QE X E e dv)
    (ha : ∀ v, assign (.Subscript o ie p2) X.env v = (do
      let ov ← holding [v] (eval o X.env)
      let iv ← holding [v, ov] (eval ie X.env)
      standAt p2
      holding [v, ov, iv] (setItem ov iv v)
      release [v, ov, iv] []) := by intro _; rfl)
    (hs : swapsWithSole [.Subscript o ie p2] e pos.line X.env = pure false := by rfl) (hw : swappedStores [.Subscript o ie p2] e X.env = pure none := by rfl)
    (h1 : (assignEach [.Subscript o ie p2] X.env).map (·.2) = [assign (.Subscript o ie p2) X.env] := by rfl) : QS X E (.Assign [.Subscript o ie p2] e pos) (dStore i di dv) := by
  obtain ⟨ti, i1, i2⟩ := hi.ex
  obtain ⟨tv, v1, v2⟩ := hv.ex
  refine ⟨_, ps_asg v1 (pg_sub ho i1 set_list ha) hs hw h1, fun as σ H ρ cs D Dd w ev ek h S => v2 as σ H ρ cs Dd.ex _ _ w ev ek h fun v H1 x cs1 e1 w1 d1 h1 => ?_⟩
  cases q : ρ[i]? with
  | none => rw [q] at h1; exact h1.elim
  | some s =>
    rw [q] at h1
    obtain ⟨o, hoo, hs⟩ := pr_get ev q
    cases s with
    | c j =>
      obtain ⟨a, g1, rfl⟩ := hs
      refine ⟨_, hoo, i2 as σ H1 ρ cs1 Dd.ex _ _ w1 (ev.ext e1) (ek.ext e1) h1 fun u H2 y cs2 e2 w2 d2 h2 => ?_⟩
      cases d2 <;> try exact h2.elim
      obtain ⟨ds, k, g2, g3, g4⟩ := h2
      obtain ⟨a', g5, xs, g6, g7⟩ := pr_get w2.cel g2
      rw [g1] at g5
      cases g5
      have ha : a ∈ as := List.mem_of_getElem? g1
      refine ⟨a, xs, _, k, rfl, rfl, g6, by rw [g7.len]; exact g3, ?_⟩
      exact S.nx [] σ _ ρ _ (fun _ z => nomatch z) ((e1.trans e2).trans (ext_upd ha)) (w2.put g1 (g7.set (d1.mono e2.hid) k)) (((ev.ext e1).ext e2).ext (ext_upd ha)) g4
    | _ => exact h1.elim
/-- x.append(e), x a name of a cell -/
def dApp (i : Nat) (dv : DE) : DS := fun Dd ρ cs => match ρ[i]? with
  | some (.c j) => (cs[j]?).isSome = true ∧ dv ρ cs Dd.ex fun x cs1 => ∃ ds, cs1[j]? = some ds ∧ ds.length < sizeLine ∧ Dd.nx 0 ρ (cs1.set j (ds ++ [x]))
  | _ => False
theorem q_app {o e : Expr} {pos apos cpos : Pos} {dv : DE} (i : Nat) (ho : PE X o (tVar i)) (hv : QE X E e dv)
    (hs0 : swapsWith (.Call (.Attribute o "append" apos) [e] [] cpos) none pos.line X.env = pure false := by rfl)
    (hbase : attributeBase o "append" X.env (eval o X.env) = eval o X.env := by rfl)
    (hfew : ((backTo cpos (starEach [e] X.env)).all (fun x => !x.1) && (backToKw cpos (keywordEach [] X.env)).all (fun x => x.1.isSome)
      && decide (([e] : List Expr).length + ([] : List Keyword).length + (if ([] : List Keyword).isEmpty then 0 else 1) < 30)) = true := by rfl)
    (hline : (apos.endLine == cpos.line) = true := by rfl) (hs : starEach [e] X.env = (false, eval e X.env) :: starEach [] X.env := by rfl) (hplain : (backTo cpos (starEach [] X.env)).any (·.1) = false := by rfl) :
    QS X E (.Expr (.Call (.Attribute o "append" apos) [e] [] cpos) pos) (dApp i dv) := by
  obtain ⟨tv, v1, v2⟩ := hv.ex
  refine ⟨_, ps_expr (pe_bm PySem.F.plainAttrs_list PySem.F.slot_list_append PySem.F.type_list_append mt_append ho (pa_cons v1 pa_nil hs) hbase hfew hline hs hplain) hs0, fun as σ H ρ cs D Dd w ev ek h S => ?_⟩
  unfold dApp at h
  cases q : ρ[i]? with
  | none => rw [q] at h; exact h.elim
  | some s =>
    rw [q] at h
    obtain ⟨o, hoo, hss⟩ := pr_get ev q
    cases s with
    | c j =>
      obtain ⟨a, g1, rfl⟩ := hss
      obtain ⟨h0, h⟩ := h
      obtain ⟨ds0, hd0⟩ := Option.isSome_iff_exists.mp h0
      obtain ⟨a0, g0, xs0, g00, _⟩ := pr_get w.cel hd0
      rw [g1] at g0
      cases g0
      refine ⟨_, hoo, .inl ⟨rfl, xs0, SqL.of g00⟩, v2 as σ H ρ cs Dd.ex _ _ w ev ek h fun v H1 x cs1 e1 w1 d1 h1 => ?_⟩
      obtain ⟨ds, g2, g3, g4⟩ := h1
      obtain ⟨a', g5, xs, g6, g7⟩ := pr_get w1.cel g2
      rw [g1] at g5
      cases g5
      have ha : a ∈ as := List.mem_of_getElem? g1
      exact ⟨a, xs, v, rfl, rfl, g6, by rw [g7.len]; exact g3, S.nx [] σ _ ρ _ (fun _ z => nomatch z) (e1.trans (ext_upd ha)) (w1.put g1 (g7.app (.one d1))) ((ev.ext e1).ext (ext_upd ha)) g4⟩
    | _ => exact h.elim

/-! ### several names -/
def gNames : List Nat → TGs
  | [] => gNil
  | i :: r => gCons (gName i) (gNames r)
def setAll : List Nat → List PyData → List Sl → Option (List Sl)
  | [], [], ρ => some ρ
  | i :: is, x :: xs, ρ => setAll is xs (ρ.set i (.d x))
  | _, _, _ => none
theorem names_ok {as : List Addr} {H : Hp} {Q : L2.St → Hp → Prop} : ∀ {is : List Nat} {vs : List V} {ds : List PyData} {σ : L2.St} {ρ ρ' : List Sl}, Ev K H as σ ρ → DqAll K (hid H as) vs ds → setAll is ds ρ = some ρ' → (∀ σ', Ev K H as σ' ρ' → Q σ' H) → gNames is vs σ H Q
  | [], _, _, σ, ρ, ρ', ev, .nil, h, k => by
    cases (show some ρ = some ρ' from h)
    exact ⟨rfl, k σ ev⟩
  | i :: is, _, _, σ, ρ, ρ', ev, .cons d ds, h, k => ⟨_, _, rfl, names_ok (is := is) (ev_set (s := .d _) ev i ⟨_, rfl, d⟩) ds h k⟩
  | [], _, _, _, _, _, _, .cons _ _, h, _ => by cases h
  | _ :: _, _, _, _, _, _, _, .nil, h, _ => by cases h
theorem setAll_len : ∀ {is : List Nat} {ds : List PyData} {ρ ρ' : List Sl}, setAll is ds ρ = some ρ' → ds.length = is.length
  | [], [], _, _, _ => rfl
  | _ :: is, _ :: ds, _, _, h => by
    rw [List.length_cons, List.length_cons, setAll_len (is := is) (ds := ds) h]
  | [], _ :: _, _, _, h => by cases h
  | _ :: _, [], _, _, h => by cases h
theorem pg_or {tg : Expr} {t u : TG} (h1 : PG X tg t) (h2 : PG X tg u) : PG X tg (fun v σ H Q => t v σ H Q ∨ u v σ H Q) :=
  ⟨fun pins s σ H v w Q I r q => q.elim (h1.run pins s σ H v w Q I r) (h2.run pins s σ H v w Q I r)⟩
/-- a, b, .. = e: e a tuple, a list -/
def dUnp (is : List Nat) (da : DE) : DS := fun Dd ρ cs => da ρ cs Dd.ex fun x cs1 => match x with
  | .tuple ds => ∃ ρ', setAll is ds ρ = some ρ' ∧ Dd.nx 0 ρ' cs1
  | .list ds => ∃ ρ', setAll is ds ρ = some ρ' ∧ Dd.nx 0 ρ' cs1
  | _ => False
theorem q_unp {es : List Expr} {k : Nat} {e : Expr} {pos p2 : Pos} {da : DE} (is : List Nat) (hc : X.calm = true) (hg : PGs X es (gNames is)) (ha : QE X E e da)
    (hn : (assignEach es X.env).length = is.length := by rfl) (hst : (assignEach es X.env).findIdx? (·.1) = none := by rfl)
    (hs : swapsWithSole [.Tuple es k p2] e pos.line X.env = pure false := by rfl) (hw : swappedStores [.Tuple es k p2] e X.env = pure none := by rfl)
    (h1 : (assignEach [.Tuple es k p2] X.env).map (·.2) = [assign (.Tuple es k p2) X.env] := by rfl) : QS X E (.Assign [.Tuple es k p2] e pos) (dUnp is da) := by
  obtain ⟨ta, a1, a2⟩ := ha.ex
  refine ⟨_, ps_asg a1 (pg_or (pg_tup hc hg hn hst) (pg_unl hc hg hn hst)) hs hw h1, fun as σ H ρ cs D Dd w ev ek h S => a2 as σ H ρ cs Dd.ex _ _ w ev ek h fun v H1 x cs1 e1 w1 d1 h1 => ?_⟩
  cases d1 with
  | tup g1 g2 =>
    obtain ⟨ρ', h2, h3⟩ := h1
    exact .inl ⟨_, _, rfl, hidT g1, by rw [g2.len]; exact setAll_len h2, names_ok (ev.ext e1) g2 h2 fun σ' ev' => S.nx [] σ' H1 ρ' cs1 (fun _ z => nomatch z) e1 w1 ev' h3⟩
  | lst g1 g2 =>
    obtain ⟨ρ', h2, h3⟩ := h1
    exact .inr ⟨_, _, rfl, SqL.of (hid1 g1), by rw [g2.len]; exact setAll_len h2, names_ok (ev.ext e1) g2 h2 fun σ' ev' => S.nx [] σ' H1 ρ' cs1 (fun _ z => nomatch z) e1 w1 ev' h3⟩
  | _ => exact h1.elim
/-- a, b = x, y; a, b, c = x, y, z: plain local names -/
def dPar (is : List Nat) (da : DA) : DS := fun Dd ρ cs => da ρ cs Dd.ex fun ss cs1 => match allD ss with
  | some ds => ∃ ρ', setAll is ds ρ = some ρ' ∧ Dd.nx 0 ρ' cs1
  | none => False
theorem q_par2 {i j : Nat} {x y : Str} {a b : Expr} {px py pt pos : Pos} {kt k2 : Nat} {pt2 : Pos} {da : DA} (hc : X.calm = true) (hN : X.N.Nodup) (ha : QA X E [a, b] da) (hi : X.N[i]? = some x := by rfl) (hj : X.N[j]? = some y := by rfl) (hij : i ≠ j := by decide)
    (hx : X.env.scope.names.lookup x = some .local := by rfl) (hy : X.env.scope.names.lookup y = some .local := by rfl)
    (hw : swappedStores [.Tuple [.Name x px, .Name y py] kt pt] (.Tuple [a, b] k2 pt2) X.env = pure (some [x, y]) := by rfl)
    (hs : swapsWithSole [.Tuple [.Name x px, .Name y py] kt pt] (.Tuple [a, b] k2 pt2) pos.line X.env = pure false := by rfl) :
    QS X E (.Assign [.Tuple [.Name x px, .Name y py] kt pt] (.Tuple [a, b] k2 pt2) pos) (dPar [i, j] da) := by
  obtain ⟨ta, a1, a2⟩ := ha.ex
  refine ⟨_, ps_par hc hN hi hj hij hx hy a1 hw hs, fun as σ H ρ cs D Dd w ev ek h S => a2 as σ H ρ cs Dd.ex _ _ w ev ek h fun vs H1 ss cs1 e1 w1 d1 h1 => ?_⟩
  cases q : allD ss with
  | none => rw [q] at h1; exact h1.elim
  | some ds =>
    rw [q] at h1
    obtain ⟨ρ', h2, h3⟩ := h1
    have d2 := allD_ok d1 q
    match ds, d2, h2 with
    | [_, _], .cons z1 (.cons z2 .nil), h2 =>
      cases (show some _ = some ρ' from h2)
      exact ⟨_, _, rfl, S.nx [] _ H1 _ cs1 (fun _ z => nomatch z) e1 w1 (ev_set (s := .d _) (ev_set (s := .d _) (ev.ext e1) i ⟨_, rfl, z1⟩) j ⟨_, rfl, z2⟩) h3⟩
theorem q_par3 {i j l : Nat} {x y z : Str} {a b c : Expr} {px py pz pt pos : Pos} {kt k2 : Nat} {pt2 : Pos} {da : DA} (hc : X.calm = true) (hN : X.N.Nodup) (ha : QA X E [a, b, c] da) (hi : X.N[i]? = some x := by rfl) (hj : X.N[j]? = some y := by rfl) (hl : X.N[l]? = some z := by rfl)
    (hij : i ≠ j := by decide) (hil : i ≠ l := by decide) (hjl : j ≠ l := by decide)
    (hx : X.env.scope.names.lookup x = some .local := by rfl) (hy : X.env.scope.names.lookup y = some .local := by rfl) (hz : X.env.scope.names.lookup z = some .local := by rfl)
    (hw : swappedStores [.Tuple [.Name x px, .Name y py, .Name z pz] kt pt] (.Tuple [a, b, c] k2 pt2) X.env = pure (some [x, y, z]) := by rfl)
    (hs : swapsWithSole [.Tuple [.Name x px, .Name y py, .Name z pz] kt pt] (.Tuple [a, b, c] k2 pt2) pos.line X.env = pure false := by rfl) :
    QS X E (.Assign [.Tuple [.Name x px, .Name y py, .Name z pz] kt pt] (.Tuple [a, b, c] k2 pt2) pos) (dPar [i, j, l] da) := by
  obtain ⟨ta, a1, a2⟩ := ha.ex
  refine ⟨_, ps_par3 hc hN hi hj hl hij hil hjl hx hy hz a1 hw hs, fun as σ H ρ cs D Dd w ev ek h S => a2 as σ H ρ cs Dd.ex _ _ w ev ek h fun vs H1 ss cs1 e1 w1 d1 h1 => ?_⟩
  cases q : allD ss with
  | none => rw [q] at h1; exact h1.elim
  | some ds =>
    rw [q] at h1
    obtain ⟨ρ', h2, h3⟩ := h1
    have d2 := allD_ok d1 q
    match ds, d2, h2 with
    | [_, _, _], .cons z1 (.cons z2 (.cons z3 .nil)), h2 =>
      cases (show some _ = some ρ' from h2)
      exact ⟨_, _, _, rfl, S.nx [] _ H1 _ cs1 (fun _ z => nomatch z) e1 w1 (ev_set (s := .d _) (ev_set (s := .d _) (ev_set (s := .d _) (ev.ext e1) i ⟨_, rfl, z1⟩) j ⟨_, rfl, z2⟩) l ⟨_, rfl, z3⟩) h3⟩
/-- x += e of ints -/
def dAug (g : Int → Int → Int) (i : Nat) (da : DE) : DS := fun Dd ρ cs => match ρ[i]? with
  | some (.d (.int n)) => da ρ cs Dd.ex fun x cs1 => match x with
    | .int k => Dd.nx 0 (ρ.set i (.d (.int (g n k)))) cs1
    | _ => False
  | _ => False
theorem q_aug {e : Expr} {pos pos' : Pos} {da : DE} {x : Str} {op : Operator} {g : Int → Int → Int} (i : Nat) (hop : PIp X op (ipI g)) (hN : X.N.Nodup) (ha : QE X E e da) (hi : X.N[i]? = some x := by rfl) (hx : Loc X.env.scope x := by first | exact Or.inl rfl | exact Or.inr rfl)
    (hf : X.fn x = true ∨ X.env.scope.names.lookup x = some .local := by first | exact .inl rfl | exact .inr rfl) : QS X E (.AugAssign (.Name x pos') op e pos) (dAug g i da) := by
  obtain ⟨ta, a1, a2⟩ := ha.ex
  refine ⟨_, ps_aug hN hi hx a1 hop hf, fun as σ H ρ cs D Dd w ev ek h S => ?_⟩
  unfold dAug at h
  cases q : ρ[i]? with
  | none => rw [q] at h; exact h.elim
  | some s =>
    rw [q] at h
    obtain ⟨o, hoo, hss⟩ := pr_get ev q
    cases s with
    | d x =>
      cases x with
      | int n =>
        obtain ⟨v, rfl, hv⟩ := hss
        cases hv
        refine ⟨_, hoo, a2 as σ H ρ cs Dd.ex _ _ w ev ek h fun v H1 x cs1 e1 w1 d1 h1 => ?_⟩
        cases d1 <;> try exact h1.elim
        exact ⟨_, _, rfl, rfl, S.nx [] _ H1 _ cs1 (fun _ z => nomatch z) e1 w1 (ev_set (s := .d _) (ev.ext e1) i ⟨_, rfl, .int _⟩) h1⟩
      | _ => exact h.elim
    | _ => exact h.elim

/-! ### loops -/
/-- n turns, the t-th item in slot i; Inv by turns; what a turn made as cells is data behind it -/
def dLoop (n : Nat) (item : Nat → PyData) (is : List Nat) (body : DS) : DS := fun Dd ρ cs => ∃ Inv : Nat → List Sl → CS → Prop, Inv 0 ρ cs ∧
  (∀ t ρ cs, t < n → Inv t ρ cs → ∃ ρ', setAll is [item t] ρ = some ρ' ∧ body { Dd with nx := fun k ρ' cs' => Inv (t + 1) (ρ'.map (disSl k cs')) (cs'.drop k), ct := fun k ρ' cs' => Inv (t + 1) (ρ'.map (disSl k cs')) (cs'.drop k), bk := Dd.nx } ρ' cs) ∧
  ∀ ρ cs, Inv n ρ cs → Dd.nx 0 ρ cs
def dForR1 (da : DA) (i : Nat) (body : DS) : DS := fun Dd ρ cs => da ρ cs Dd.ex fun ss cs1 => match allD ss with
  | some [.int n] => -(2 ^ 62) ≤ n ∧ n < 2 ^ 62 ∧ dLoop n.toNat (fun t => .int t) [i] body Dd ρ cs1
  | _ => False
def dForR2 (da : DA) (i : Nat) (body : DS) : DS := fun Dd ρ cs => da ρ cs Dd.ex fun ss cs1 => match allD ss with
  | some [.int a, .int b] => (-(2 ^ 62) ≤ a ∧ a < 2 ^ 62 ∧ -(2 ^ 62) ≤ b ∧ b < 2 ^ 62) ∧ dLoop (b - a).toNat (fun t => .int (a + t)) [i] body Dd ρ cs1
  | _ => False
theorem range_loop {as : List Addr} {H : Hp} {ρ : List Sl} {cs : CS} {σ : L2.St} {D : Ends} {Dd : DN} {i n : Nat} {lo : Int} {tb : TS} {db : DS} (w : Wk K H as cs) (ev : Ev K H as σ ρ) (ek : EK K E Dd.ex as H) (b2 : SS K E tb db) (S : Sim K as H D Dd)
    (h : dLoop n (fun t => .int (lo + t)) [i] db Dd ρ cs) : ∃ W : Nat → Nat → L2.St → Hp → Prop, (∃ m, W 0 m σ H) ∧ ∀ i' m σ H, W i' m σ H →
      ((Itr lo n).stop i' H ∧ D.nx σ H) ∨ ((Itr lo n).go i' H ∧ ∃ N : L2.St → Hp → Prop, (∀ σ' H', N σ' H' → ∃ m', m' < m ∧ W (i' + 1) m' σ' H') ∧ ∀ x H', (Itr lo n).yld i' H x H' → gName i x σ H' fun σ2 H2 => tb { D with nx := N, ct := N, bk := D.nx } σ2 H2) := by
  obtain ⟨Inv, h0, hs, hd⟩ := h
  refine for_range (fun t σ' H' => ∃ ρ' cs', Ext as H H' ∧ Wk K H' as cs' ∧ Ev K H' as σ' ρ' ∧ Inv t ρ' cs') ⟨ρ, cs, Ext.refl, w, ev, h0⟩ (fun t σ' H' ht hp => ?_) fun σ' H' hp => ?_
  · obtain ⟨ρ1, cs1, e1, w1, ev1, i1⟩ := hp
    obtain ⟨ρ2, h2, h3⟩ := hs t ρ1 cs1 ht i1
    cases (show some (ρ1.set i (.d (.int (lo + t)))) = some ρ2 from h2)
    refine b2 as _ H' _ cs1 _ { Dd with nx := fun k ρ' cs' => Inv (t + 1) (ρ'.map (disSl k cs')) (cs'.drop k), ct := fun k ρ' cs' => Inv (t + 1) (ρ'.map (disSl k cs')) (cs'.drop k), bk := Dd.nx } w1 (ev_set (s := .d _) ev1 i ⟨_, rfl, .int _⟩) (ek.ext e1) h3 ?_
    have S1 := S.ext w1 e1
    exact ⟨fun ex σ2 H2 ρ2 cs2 hf e2 w2 ev2 q => ⟨_, _, e1.trans e2, w2.drop, ev2.diss w2, q⟩, S1.nx, fun ex σ2 H2 ρ2 cs2 hf e2 w2 ev2 q => ⟨_, _, e1.trans e2, w2.drop, ev2.diss w2, q⟩, S1.rt, S1.rf⟩
  · obtain ⟨ρ1, cs1, e1, w1, ev1, i1⟩ := hp
    exact S.nx [] σ' H' ρ1 cs1 (fun _ z => nomatch z) e1 w1 ev1 (hd ρ1 cs1 i1)
theorem q_forR1 {tg a : Expr} {body : List Stmt} {p p2 pos : Pos} {da : DA} {db : DS} (i : Nat) (hp : PassesOwn (model X.prog X.w) X.A X.env X.xe) (hc : X.calm = true) (hm : X.mg "range" = none) (ha : QA X E [a] da) (hg : PG X tg (gName i)) (hb : QSs X E body db)
    (hgl : Gl X "range" := by rfl) (hs : starEach [a] X.env = [(false, eval a X.env)] := by rfl) (hs2 : ∀ x, foldedSetIterable (.Call (.Name "range" p) [a] [] p2) X.env x = pure x := by intro _; rfl) :
    QS X E (.For tg (.Call (.Name "range" p) [a] [] p2) body [] pos) (dForR1 da i db) := by
  obtain ⟨ta, a1, a2⟩ := ha.ex
  obtain ⟨tb, b1, b2⟩ := hb.ex
  refine ⟨_, ps_for hp hc (pi_range1 hgl hm a1 hs) hg b1 hs2, fun as σ H ρ cs D Dd w ev ek h S => a2 as σ H ρ cs Dd.ex _ _ w ev ek h fun vs H1 ss cs1 e1 w1 d1 h1 => ?_⟩
  cases q : allD ss with
  | none => rw [q] at h1; exact h1.elim
  | some ds =>
    rw [q] at h1
    have d2 := allD_ok d1 q
    match ds, d2, h1 with
    | [.int n], .cons (.int _) .nil, h1 =>
      obtain ⟨g1, g2, g3⟩ := h1
      refine ⟨n, rfl, g1, g2, range_loop (lo := 0) w1 (ev.ext e1) (ek.ext e1) b2 (S.ext w1 e1) ?_⟩
      have e0 : (fun t : Nat => PyData.int (0 + (t : Int))) = fun t : Nat => .int t := by funext t; rw [Int.zero_add]
      rw [e0]
      exact g3
theorem q_forR2 {tg a b : Expr} {body : List Stmt} {p p2 pos : Pos} {da : DA} {db : DS} (i : Nat) (hp : PassesOwn (model X.prog X.w) X.A X.env X.xe) (hc : X.calm = true) (hm : X.mg "range" = none) (ha : QA X E [a, b] da) (hg : PG X tg (gName i)) (hb : QSs X E body db)
    (hgl : Gl X "range" := by rfl) (hs : starEach [a, b] X.env = [(false, eval a X.env), (false, eval b X.env)] := by rfl) (hs1 : starEach [b] X.env = [(false, eval b X.env)] := by rfl) (hs2 : ∀ x, foldedSetIterable (.Call (.Name "range" p) [a, b] [] p2) X.env x = pure x := by intro _; rfl) :
    QS X E (.For tg (.Call (.Name "range" p) [a, b] [] p2) body [] pos) (dForR2 da i db) := by
  obtain ⟨ta, a1, a2⟩ := ha.ex
  obtain ⟨tb, b1, b2⟩ := hb.ex
  refine ⟨_, ps_for hp hc (pi_range2 hgl hm a1 hs hs1) hg b1 hs2, fun as σ H ρ cs D Dd w ev ek h S => a2 as σ H ρ cs Dd.ex _ _ w ev ek h fun vs H1 ss cs1 e1 w1 d1 h1 => ?_⟩
  cases q : allD ss with
  | none => rw [q] at h1; exact h1.elim
  | some ds =>
    rw [q] at h1
    have d2 := allD_ok d1 q
    match ds, d2, h1 with
    | [.int n, .int m], .cons (.int _) (.cons (.int _) .nil), h1 =>
      obtain ⟨g1, g3⟩ := h1
      exact ⟨n, m, rfl, g1, range_loop w1 (ev.ext e1) (ek.ext e1) b2 (S.ext w1 e1) g3⟩
end
end Kp

namespace Kp
open PySem PySem.Spec PyProof.Rows L2
section
variable {K : Frag} {E : XK} {X : Cx}
/-! ### ints: the operators' data readings -/
theorem sr_add : SR K (rI0 fun i j => .int (i + j)) (dI0 fun i j => .int (i + j)) := sr_I0 fun _ _ _ => .int _
theorem sr_sub : SR K (rI0 fun i j => .int (i - j)) (dI0 fun i j => .int (i - j)) := sr_I0 fun _ _ _ => .int _
theorem sr_mul : SR K (rI CMul fun i j => .int (i * j)) (dI CMul fun i j => .int (i * j)) := sr_I fun _ _ _ => .int _
theorem sr_div : SR K (rI CDivW fun i j => .int (i / j)) (dI CDivW fun i j => .int (i / j)) := sr_I fun _ _ _ => .int _
theorem sr_mod : SR K (rI (fun _ j => 0 < j) fun i j => .int (i % j)) (dI (fun _ j => 0 < j) fun i j => .int (i % j)) := sr_I fun _ _ _ => .int _
theorem sr_pow : SR K (rI CPow fun i j => .int (i ^ j.toNat)) (dI CPow fun i j => .int (i ^ j.toNat)) := sr_I fun _ _ _ => .int _
theorem sr_lt : SR K (rI0 fun i j => .bl (decide (i < j))) (dI0 fun i j => .bool (decide (i < j))) := sr_I0 fun _ _ _ => .bl _
theorem sr_le : SR K (rI0 fun i j => .bl (decide (i ≤ j))) (dI0 fun i j => .bool (decide (i ≤ j))) := sr_I0 fun _ _ _ => .bl _
theorem sr_gt : SR K (rI0 fun i j => .bl (decide (j < i))) (dI0 fun i j => .bool (decide (j < i))) := sr_I0 fun _ _ _ => .bl _
theorem sr_ge : SR K (rI0 fun i j => .bl (decide (j ≤ i))) (dI0 fun i j => .bool (decide (j ≤ i))) := sr_I0 fun _ _ _ => .bl _
/-! ### == of data -/
mutual
theorem Dq.dp {H : Hp} : ∀ {v : V} {d : PyData}, Dq K H v d → d.canLay0 = true → Dp K H v d
  | _, _, .non, _ => .non
  | _, _, .bl b, _ => .bl b
  | _, _, .int i, _ => .int i
  | _, _, .str x, _ => .str x
  | _, _, .lst h a, c => .lst (SqL.of h) (DqAll.dp a c)
  | _, _, .tup h a, c => .tup h (DqAll.dp a c)
  | _, _, .emp _, c => by cases c
theorem DqAll.dp {H : Hp} : ∀ {vs : List V} {ds : List PyData}, DqAll K H vs ds → PyData.canLayAll0 ds = true → DpAll K H vs ds
  | _, _, .nil, _ => .nil
  | _, _, .cons h t, c => by
    obtain ⟨c1, c2⟩ := Bool.and_eq_true_iff.mp (show (PyData.canLay0 _ && PyData.canLayAll0 _) = true from c)
    exact .cons (Dq.dp h c1) (DqAll.dp t c2)
end
mutual
theorem dp_mono {H H' : Hp} (s : Same H H') : ∀ {v : V} {d : PyData}, Dp K H v d → Dp K H' v d
  | _, _, .non => .non
  | _, _, .bl b => .bl b
  | _, _, .int i => .int i
  | _, _, .str x => .str x
  | _, _, .lst h a => .lst (s.seq h) (dpa_mono s a)
  | _, _, .tup h a => .tup (same_t s h) (dpa_mono s a)
theorem dpa_mono {H H' : Hp} (s : Same H H') : ∀ {vs : List V} {ds : List PyData}, DpAll K H vs ds → DpAll K H' vs ds
  | _, _, .nil => .nil
  | _, _, .cons h t => .cons (dp_mono s h) (dpa_mono s t)
end
def dEq : R2D := fun x y Q => SeqAt.shaped x = true ∧ SeqAt.shaped y = true ∧ Q (.bool (PyData.eqv x y))
def dNe : R2D := fun x y Q => SeqAt.shaped x = true ∧ SeqAt.shaped y = true ∧ Q (.bool (!PyData.eqv x y))
theorem sr_eq : SR K (rEqD K) dEq := fun as H cs v u x y Qd Q w hx hy h k => by
  obtain ⟨h1, h2, h3⟩ := h
  exact ⟨x, y, dp_mono (hid_sub H as) (hx.dp (SeqAt.canLay_of_shaped h1)), dp_mono (hid_sub H as) (hy.dp (SeqAt.canLay_of_shaped h2)), h1, h2, k _ H _ (Same.refl H) (.bl _) h3⟩
theorem sr_ne : SR K (rNeD K) dNe := fun as H cs v u x y Qd Q w hx hy h k => by
  obtain ⟨h1, h2, h3⟩ := h
  exact ⟨x, y, dp_mono (hid_sub H as) (hx.dp (SeqAt.canLay_of_shaped h1)), dp_mono (hid_sub H as) (hy.dp (SeqAt.canLay_of_shaped h2)), h1, h2, k _ H _ (Same.refl H) (.bl _) h3⟩
/-- is None -/
def isNo : PyData → Bool
  | .none => true
  | _ => false
def dIsN : R2D := fun x y Q => match y with
  | .none => Q (.bool (isNo x))
  | _ => False
def dNotN : R2D := fun x y Q => match y with
  | .none => Q (.bool (!isNo x))
  | _ => False
theorem isNo_eq {H : Hp} {v : V} {x : PyData} (h : Dq K H v x) : decide (v = .non) = isNo x := by
  cases h <;> first | rfl | exact decide_eq_false (fun z => by cases z)
theorem sr_isN : SR K (fun x y H Q => y = .non ∧ Q (.bl (decide (x = .non))) H) dIsN := fun as H cs v u x y Qd Q w hx hy h k => by
  cases hy <;> try exact h.elim
  exact ⟨rfl, by rw [isNo_eq hx]; exact k _ H _ (Same.refl H) (.bl _) h⟩
theorem sr_notN : SR K (fun x y H Q => y = .non ∧ Q (.bl (!decide (x = .non))) H) dNotN := fun as H cs v u x y Qd Q w hx hy h k => by
  cases hy <;> try exact h.elim
  exact ⟨rfl, by rw [isNo_eq hx]; exact k _ H _ (Same.refl H) (.bl _) h⟩
/-- + of ints, tuples, lists -/
abbrev rPlus (K : Frag) : R2 := fun x y H Q => rI0 (fun i j => .int (i + j)) x y H Q ∨ (rCatA K x y H Q ∨ rCat x y H Q)
theorem op_plus : OpR X (binaryOp .Add) (rPlus X.K) := OpR.or op_add (OpR.or op_catA op_cat)
def dPlus : R2D := fun x y Q => match x, y with
  | .int i, .int j => Q (.int (i + j))
  | .tuple xs, .tuple ys => xs.length + ys.length ≤ sizeLine ∧ Q (.tuple (xs ++ ys))
  | .list xs, .list ys => xs.length + ys.length ≤ sizeLine ∧ Q (.list (xs ++ ys))
  | _, _ => False
theorem sr_plus : SR K (rPlus K) dPlus := fun as H cs v u x y Qd Q w hx hy h k => by
  cases hx with
  | int i =>
    cases hy <;> try exact h.elim
    exact .inl ⟨_, _, rfl, rfl, k _ H _ (Same.refl H) (.int _) h⟩
  | tup g1 g2 =>
    cases hy with
    | tup g3 g4 =>
      refine .inr (.inl ⟨_, _, _, _, rfl, rfl, hidT g1, hidT g3, by rw [g2.len, g4.len]; exact h.1, fun z => ?_, fun _ z => ?_, fun _ _ p hp => ?_⟩)
      · subst z
        cases g2
        exact k _ H _ (Same.refl H) (.tup g3 g4) h.2
      · subst z
        cases g4
        have h3 := h.2
        rw [List.append_nil] at h3
        exact k _ H _ (Same.refl H) (.tup g1 g2) h3
      · exact k _ _ _ (Same.new hp) (.tup (SqT.of (hid_new (w.fresh hp))) ((g2.app g4).mono (new_mono hp))) h.2
    | _ => exact h.elim
  | lst g1 g2 =>
    cases hy with
    | lst g3 g4 =>
      exact .inr (.inr ⟨_, _, _, _, rfl, rfl, hid1 g1, hid1 g3, by rw [g2.len, g4.len]; exact h.1, fun p hp => k _ _ _ (Same.new hp) (.lst (hid_new (w.fresh hp)) ((g2.app g4).mono (new_mono hp))) h.2⟩)
    | _ => exact h.elim
  | _ => exact h.elim
/-- * of ints, a list times an int -/
abbrev rTimes : R2 := fun x y H Q => rI CMul (fun i j => .int (i * j)) x y H Q ∨ rRep x y H Q
theorem op_times : OpR X (binaryOp .Mult) rTimes := OpR.or op_mul op_rep
def dTimes : R2D := fun x y Q => match x, y with
  | .int i, .int j => CMul i j ∧ Q (.int (i * j))
  | .list xs, .int n => (-(2 ^ 63) ≤ n ∧ n < 2 ^ 63 ∧ xs.length * n.toNat ≤ sizeLine) ∧ Q (.list (List.replicate n.toNat xs).flatten)
  | _, _ => False
theorem DqAll.flat {H : Hp} {xs : List V} {ds : List PyData} (h : DqAll K H xs ds) : ∀ n, DqAll K H (List.replicate n xs).flatten (List.replicate n ds).flatten
  | 0 => .nil
  | n + 1 => by
    rw [List.replicate_succ, List.replicate_succ, List.flatten_cons, List.flatten_cons]
    exact h.app (DqAll.flat h n)
theorem sr_times : SR K rTimes dTimes := fun as H cs v u x y Qd Q w hx hy h k => by
  cases hx with
  | int i =>
    cases hy <;> try exact h.elim
    exact .inl ⟨_, _, rfl, rfl, h.1, k _ H _ (Same.refl H) (.int _) h.2⟩
  | lst g1 g2 =>
    cases hy <;> try exact h.elim
    obtain ⟨⟨h1, h2, h3⟩, h4⟩ := h
    exact .inr ⟨_, _, _, rfl, rfl, hid1 g1, h1, h2, by rw [g2.len]; exact h3, fun p hp => k _ _ _ (Same.new hp) (.lst (hid_new (w.fresh hp)) ((g2.flat _).mono (new_mono hp))) h4⟩
  | _ => exact h.elim
/-! ### isinstance of data -/
def tyD : PyData → String
  | .none => "NoneType"
  | .bool _ => "bool"
  | .int _ => "int"
  | .str _ => "str"
  | .list _ => "list"
  | .tuple _ => "tuple"
  | .dict _ => "dict"
theorem Dq.ty {H : Hp} {v : V} {x : PyData} (h : Dq K H v x) : TyX K H v (.type (tyD x)) := by
  cases h with
  | non => exact .base .non
  | bl b => exact .base (.bl b)
  | int i => exact .base (.int i)
  | str s => exact .base (.str s)
  | lst g1 g2 => exact .base (.lst g1)
  | tup g1 g2 =>
    rcases g1 with (g | ⟨o, g⟩) | ⟨o, its, n, g, c, _⟩
    · exact .base (.tup g)
    · exact .fTuple g
    · exact .kTuple g c
  | emp g => exact .base (.dK g)
theorem tyx_mono {H H' : Hp} (s : Same H H') {v : V} {x : PyData} (h : Dq K H v x) : TyX K H' v (.type (tyD x)) := (h.mono s).ty
/-- isinstance(e, T), T a built-in class -/
def dIsi (T : String) (da : DE) : DE := fun ρ cs Ed Q => da ρ cs Ed fun x cs1 => ∃ b, kitB (tyD x) T = some b ∧ Q (.bool b) cs1
theorem q_isi {e : Expr} {p p2 pos : Pos} {da : DE} {T : Str} (n : String) (ha : QE X E e da) (hi : X.mg "isinstance" = none) (hT : X.mg T = none) (hv : bootBuiltins T = some (.type n)) (hg : Gl X "isinstance" := by rfl) (hgT : Gl X T := by rfl) (hn : T ≠ "__name__" := by decide) (hd : (T == ("__debug__" : Str)) = false := by decide)
    (hs : starEach [.Name T p2] X.env = (false, eval (.Name T p2) X.env) :: starEach [] X.env := by rfl) (hs2 : starEach (e :: [.Name T p2]) X.env = (false, eval e X.env) :: starEach [.Name T p2] X.env := by rfl)
    (hpl : (backTo pos (starEach [.Name T p2] X.env)).any (·.1) = false := by rfl) : QE X E (.Call (.Name "isinstance" p) [e, .Name T p2] [] pos) (dIsi n da) := by
  obtain ⟨ta, a1, a2⟩ := ha.ex
  refine ⟨_, pe_callB call_isi hg hi (by decide +kernel) (pa_cons a1 (pa_cons (pe_bltn hgT hT hv (show RelV (.ty n) (.type n) from rfl) hn hd) pa_nil hs) hs2) (he := hs2) (hpl := hpl), fun as σ H ρ cs Ed Qd Q w ev ek h k => a2 as σ H ρ cs Ed _ _ w ev ek h fun v H1 x cs1 e1 w1 d1 h1 => ?_⟩
  obtain ⟨b, h2, h3⟩ := h1
  exact ⟨v, .ty n, _, _, b, rfl, .ty n, tyx_mono (hid_sub H1 as) d1, kit_ty h2, k _ H1 _ cs1 e1 w1 (.bl b) h3⟩
end
end Kp

namespace Kp
open PySem PySem.Spec PyProof.Rows L2
section
variable {K : Frag} {E : XK} {X : Cx}
/-! ### what is walked: ints of a range, items of a list or tuple -/
/-- n items, it i the i-th; they stay in any heap that keeps the base H but for the cells as -/
def ItOk (K : Frag) (as : List Addr) (H : Hp) (J : It) (n : Nat) (item : Nat → PyData) : Prop := ∀ ex H', (∀ p ∈ ex, H p = none) → Ext as H H' →
  (∀ i, i < n → J.go i H' ∧ ∀ x H2, J.yld i H' x H2 → H2 = H' ∧ Dq K (hid H' (ex ++ as)) x (item i)) ∧ J.stop n H'
theorem same_sh {as ex : List Addr} {H H' : Hp} (hf : ∀ p ∈ ex, H p = none) (s : Ext as H H') : Same (hid H as) (hid H' (ex ++ as)) := fun b o h => by
  obtain ⟨h1, h2⟩ := hid_of h
  rw [hid_out fun z => (List.mem_append.mp z).elim (fun q => by rw [hf b q] at h2; cases h2) h1]
  exact s b o h1 h2
abbrev DI := List Sl → CS → XD → (Nat → (Nat → PyData) → CS → Prop) → Prop
def SI (K : Frag) (E : XK) (wi : TI) (d : DI) : Prop := ∀ (as : List Addr) (σ : L2.St) (H : Hp) (ρ : List Sl) (cs : CS) (Ed : XD) (Qd : Nat → (Nat → PyData) → CS → Prop) (R : It → Hp → Prop),
  Wk K H as cs → Ev K H as σ ρ → EK K E Ed as H → d ρ cs Ed Qd → (∀ J H' n item cs', Ext as H H' → Wk K H' as cs' → ItOk K as H' J n item → Qd n item cs' → R J H') → wi σ H R
structure QI (X : Cx) (E : XK) (tg it : Expr) (d : DI) : Prop where
  ex : ∃ wi, PI X tg it wi ∧ SI X.K E wi d
theorem it_range {as : List Addr} {H : Hp} (lo : Int) (n : Nat) : ItOk K as H (Itr lo n) n (fun t => .int (lo + t)) := fun ex H' hf e =>
  ⟨fun i hi => ⟨hi, fun x H2 y => ⟨y.1, by rw [y.2]; exact .int _⟩⟩, Nat.le_refl n⟩
def nth (ds : List PyData) (i : Nat) : PyData := ds.getD i .none
theorem it_list {as : List Addr} {H : Hp} {a : Addr} {xs : List V} {ds : List PyData} (h : hid H as a = some (.lst xs)) (d : DqAll K (hid H as) xs ds) : ItOk K as H (Itl K a) ds.length (nth ds) := fun ex H' hf e => by
  have h' : SqL K H' a xs := SqL.of (hid1 (e.hid _ _ h))
  refine ⟨fun i hi => ⟨?_, fun x H2 y => ⟨y.1, ?_⟩⟩, xs, h', by rw [d.len]; exact Nat.le_refl _⟩
  · have hx : i < xs.length := by rw [d.len]; exact hi
    exact ⟨xs, xs[i], h', List.getElem?_eq_getElem hx⟩
  · obtain ⟨w, q1, q2⟩ := d.get' (y.2 xs h')
    have e2 : nth ds i = w := by unfold nth; rw [List.getD_eq_getElem?_getD, q1]; rfl
    rw [e2]
    exact q2.mono (same_sh hf e)
theorem it_tup {as : List Addr} {H : Hp} {a : Addr} {xs : List V} {ds : List PyData} (h : SqT K (hid H as) a xs) (d : DqAll K (hid H as) xs ds) : ItOk K as H (Itt K a) ds.length (nth ds) := fun ex H' hf e => by
  have h' : SqT K H' a xs := hidT (same_t e.hid h)
  refine ⟨fun i hi => ⟨?_, fun x H2 y => ⟨y.1, ?_⟩⟩, xs, h', by rw [d.len]; exact Nat.le_refl _⟩
  · have hx : i < xs.length := by rw [d.len]; exact hi
    exact ⟨xs, xs[i], h', List.getElem?_eq_getElem hx⟩
  · obtain ⟨w, q1, q2⟩ := d.get' (y.2 xs h')
    have e2 : nth ds i = w := by unfold nth; rw [List.getD_eq_getElem?_getD, q1]; rfl
    rw [e2]
    exact q2.mono (same_sh hf e)
def iR1 (da : DA) : DI := fun ρ cs Ed Q => da ρ cs Ed fun ss cs1 => match allD ss with
  | some [.int n] => -(2 ^ 62) ≤ n ∧ n < 2 ^ 62 ∧ Q n.toNat (fun t => .int t) cs1
  | _ => False
def iR2 (da : DA) : DI := fun ρ cs Ed Q => da ρ cs Ed fun ss cs1 => match allD ss with
  | some [.int a, .int b] => (-(2 ^ 62) ≤ a ∧ a < 2 ^ 62 ∧ -(2 ^ 62) ≤ b ∧ b < 2 ^ 62) ∧ Q (b - a).toNat (fun t => .int (a + t)) cs1
  | _ => False
def iSeq (da : DE) : DI := fun ρ cs Ed Q => da ρ cs Ed fun x cs1 => match x with
  | .tuple ds => Q ds.length (nth ds) cs1
  | .list ds => Q ds.length (nth ds) cs1
  | _ => False
theorem qi_r1 {tg a : Expr} {p p2 : Pos} {da : DA} (hm : X.mg "range" = none) (ha : QA X E [a] da) (hgl : Gl X "range" := by rfl) (hs : starEach [a] X.env = [(false, eval a X.env)] := by rfl) : QI X E tg (.Call (.Name "range" p) [a] [] p2) (iR1 da) := by
  obtain ⟨ta, a1, a2⟩ := ha.ex
  refine ⟨_, pi_range1 hgl hm a1 hs, fun as σ H ρ cs Ed Qd R w ev ek h k => a2 as σ H ρ cs Ed _ _ w ev ek h fun vs H1 ss cs1 e1 w1 d1 h1 => ?_⟩
  cases q : allD ss with
  | none => rw [q] at h1; exact h1.elim
  | some ds =>
    rw [q] at h1
    have d2 := allD_ok d1 q
    match ds, d2, h1 with
    | [.int n], .cons (.int _) .nil, h1 =>
      obtain ⟨g1, g2, g3⟩ := h1
      have it := it_range (K := X.K) (as := as) (H := H1) 0 n.toNat
      have e0 : (fun t : Nat => PyData.int (0 + (t : Int))) = fun t : Nat => .int t := by funext t; rw [Int.zero_add]
      rw [e0] at it
      exact ⟨n, rfl, g1, g2, k _ H1 _ _ cs1 e1 w1 it g3⟩
theorem qi_r2 {tg a b : Expr} {p p2 : Pos} {da : DA} (hm : X.mg "range" = none) (ha : QA X E [a, b] da) (hgl : Gl X "range" := by rfl) (hs : starEach [a, b] X.env = [(false, eval a X.env), (false, eval b X.env)] := by rfl) (hs1 : starEach [b] X.env = [(false, eval b X.env)] := by rfl) :
    QI X E tg (.Call (.Name "range" p) [a, b] [] p2) (iR2 da) := by
  obtain ⟨ta, a1, a2⟩ := ha.ex
  refine ⟨_, pi_range2 hgl hm a1 hs hs1, fun as σ H ρ cs Ed Qd R w ev ek h k => a2 as σ H ρ cs Ed _ _ w ev ek h fun vs H1 ss cs1 e1 w1 d1 h1 => ?_⟩
  cases q : allD ss with
  | none => rw [q] at h1; exact h1.elim
  | some ds =>
    rw [q] at h1
    have d2 := allD_ok d1 q
    match ds, d2, h1 with
    | [.int n, .int m], .cons (.int _) (.cons (.int _) .nil), h1 => exact ⟨n, m, rfl, h1.1, k _ H1 _ _ cs1 e1 w1 (it_range n _) h1.2⟩
/-- a list or a tuple is walked -/
def iAny (K : Frag) (tl : TE) : TI := fun σ H R => tl σ H fun x H1 => ∃ a, x = .ref a ∧ (((∃ xs, SqL K H1 a xs) ∧ R (Itl K a) H1) ∨ ((∃ xs, SqT K H1 a xs) ∧ R (Itt K a) H1))
theorem pi_any {tg l : Expr} {tl : TE} (hl : PE X l tl) : PI X tg l (iAny X.K tl) := by
  constructor
  intro pins s σ H R I h
  refine thn (hl.run pins s σ H _ I h) ?_
  rintro v s1 ⟨x, H1, I1, r1, a, rfl, ⟨⟨xs, hq⟩, q⟩ | ⟨⟨xs, hq⟩, q⟩⟩
  · cases r1
    obtain ⟨its, -, p, -⟩ := I1.list hq
    refine wpAny_pyIter_list p.isList ⟨_, _, _, _, H1, rfl, ?_, turn_list a _, ⟨_, Heap.get?_push_size _ rfl, rfl, rfl⟩, ?_, q⟩
    · exact I1.kept (t' := s1.toks) fun b o e => Heap.get?_push_of_some _ e
    · intro b hb
      rw [List.mem_singleton.mp hb]
      exact I1.fpOk (Nat.le_refl _) (I1.hok.fresh (Nat.le_refl _))
  · cases r1
    obtain ⟨its, -, p, -⟩ := I1.tuple hq
    refine wpAny_pyIter_tuple (show s1.heap.IsTuple a its.toArray from p) ⟨_, _, _, _, H1, rfl, ?_, turn_tuple a _, ⟨_, Heap.get?_push_size _ rfl, rfl, rfl⟩, ?_, q⟩
    · exact I1.kept (t' := s1.toks) fun b o e => Heap.get?_push_of_some _ e
    · intro b hb
      rw [List.mem_singleton.mp hb]
      exact I1.fpOk (Nat.le_refl _) (I1.hok.fresh (Nat.le_refl _))
theorem qi_seq {tg l : Expr} {da : DE} (ha : QE X E l da) : QI X E tg l (iSeq da) := by
  obtain ⟨ta, a1, a2⟩ := ha.ex
  refine ⟨_, pi_any a1, fun as σ H ρ cs Ed Qd R w ev ek h k => a2 as σ H ρ cs Ed _ _ w ev ek h fun v H1 x cs1 e1 w1 d1 h1 => ?_⟩
  cases d1 with
  | lst g1 g2 => exact ⟨_, rfl, .inl ⟨⟨_, SqL.of (hid1 g1)⟩, k _ H1 _ _ cs1 e1 w1 (it_list g1 g2) h1⟩⟩
  | tup g1 g2 => exact ⟨_, rfl, .inr ⟨⟨_, hidT g1⟩, k _ H1 _ _ cs1 e1 w1 (it_tup g1 g2) h1⟩⟩
  | _ => exact h1.elim
/-! ### targets -/
abbrev Put := PyData → List Sl → Option (List Sl)
def SG (K : Frag) (t : TG) (p : Put) : Prop := ∀ (as : List Addr) (σ : L2.St) (H : Hp) (ρ ρ' : List Sl) (v : V) (x : PyData) (Q : L2.St → Hp → Prop), Ev K H as σ ρ → Dq K (hid H as) v x → p x ρ = some ρ' → (∀ σ', Ev K H as σ' ρ' → Q σ' H) → t v σ H Q
structure QG (X : Cx) (tg : Expr) (p : Put) : Prop where
  ex : ∃ t, PG X tg t ∧ SG X.K t p
def put1 (i : Nat) : Put := fun x ρ => some (ρ.set i (.d x))
def putT (is : List Nat) : Put := fun x ρ => match x with
  | .tuple ds => setAll is ds ρ
  | _ => none
theorem sg_1 (i : Nat) : SG K (gName i) (put1 i) := fun as σ H ρ ρ' v x Q ev d h k => by
  cases (show some (ρ.set i (.d x)) = some ρ' from h)
  exact k _ (ev_set (s := .d x) ev i ⟨v, rfl, d⟩)
theorem qg_1 {tg : Expr} (i : Nat) (hg : PG X tg (gName i)) : QG X tg (put1 i) := ⟨_, hg, sg_1 i⟩
theorem qg_t {es : List Expr} {k : Nat} {pos : Pos} (is : List Nat) (hc : X.calm = true) (hg : PGs X es (gNames is)) (hn : (assignEach es X.env).length = is.length := by rfl) (hst : (assignEach es X.env).findIdx? (·.1) = none := by rfl) : QG X (.Tuple es k pos) (putT is) :=
  ⟨_, pg_tup hc hg hn hst, fun as σ H ρ ρ' v x Q ev d h kk => by
    cases d with
    | tup g1 g2 => exact ⟨_, _, rfl, hidT g1, by rw [g2.len]; exact setAll_len h, names_ok ev g2 h kk⟩
    | _ => cases h⟩
/-! ### for -/
/-- Inv by turns; what a turn made as cells is data behind it -/
def dLp (n : Nat) (item : Nat → PyData) (p : Put) (body : DS) : DS := fun Dd ρ cs => ∃ Inv : Nat → List Sl → CS → Prop, Inv 0 ρ cs ∧
  (∀ t ρ cs, t < n → Inv t ρ cs → ∃ ρ', p (item t) ρ = some ρ' ∧ body { Dd with nx := fun k ρ' cs' => Inv (t + 1) (ρ'.map (disSl k cs')) (cs'.drop k), ct := fun k ρ' cs' => Inv (t + 1) (ρ'.map (disSl k cs')) (cs'.drop k), bk := Dd.nx } ρ' cs) ∧
  ∀ ρ cs, Inv n ρ cs → Dd.nx 0 ρ cs
def dFor (di : DI) (p : Put) (body : DS) : DS := fun Dd ρ cs => di ρ cs Dd.ex fun n item cs1 => dLp n item p body Dd ρ cs1
theorem q_for {tg it : Expr} {body : List Stmt} {pos : Pos} {di : DI} {p : Put} {db : DS} (hp : PassesOwn (model X.prog X.w) X.A X.env X.xe) (hc : X.calm = true) (hi : QI X E tg it di) (hg : QG X tg p) (hb : QSs X E body db)
    (hs2 : ∀ x, foldedSetIterable it X.env x = pure x := by intro _; rfl) : QS X E (.For tg it body [] pos) (dFor di p db) := by
  obtain ⟨wi, i1, i2⟩ := hi.ex
  obtain ⟨tgt, g1, g2⟩ := hg.ex
  obtain ⟨tb, b1, b2⟩ := hb.ex
  refine ⟨_, ps_for hp hc i1 g1 b1 hs2, fun as σ H ρ cs D Dd w ev ek h S => i2 as σ H ρ cs Dd.ex _ _ w ev ek h fun J H1 n item cs1 e1 w1 it h1 => ?_⟩
  obtain ⟨Inv, h0, hs, hd⟩ := h1
  refine ⟨fun t m σ' H' => m = n - t ∧ t ≤ n ∧ ∃ ρ' cs', Ext as H1 H' ∧ Wk X.K H' as cs' ∧ Ev X.K H' as σ' ρ' ∧ Inv t ρ' cs', ⟨n, by simp, Nat.zero_le _, ρ, cs1, Ext.refl, w1, ev.ext e1, h0⟩, ?_⟩
  rintro t m σ2 H2 ⟨rfl, ht, ρ2, cs2, e2, w2, ev2, i2⟩
  obtain ⟨z1, z2⟩ := it [] H2 (fun _ z => nomatch z) e2
  by_cases hlt : t < n
  · obtain ⟨z3, z4⟩ := z1 t hlt
    refine .inr ⟨z3, fun σ' H' => ∃ ρ' cs', Ext as H1 H' ∧ Wk X.K H' as cs' ∧ Ev X.K H' as σ' ρ' ∧ Inv (t + 1) ρ' cs', fun σ' H' q => ⟨n - (t + 1), by omega, rfl, hlt, q⟩, fun x H3 y => ?_⟩
    obtain ⟨rfl, dx⟩ := z4 x H3 y
    obtain ⟨ρ3, p1, p2⟩ := hs t ρ2 cs2 hlt i2
    refine g2 as σ2 H3 ρ2 ρ3 x _ _ ev2 dx p1 fun σ3 ev3 => ?_
    refine b2 as σ3 H3 ρ3 cs2 _ { Dd with nx := fun k ρ' cs' => Inv (t + 1) (ρ'.map (disSl k cs')) (cs'.drop k), ct := fun k ρ' cs' => Inv (t + 1) (ρ'.map (disSl k cs')) (cs'.drop k), bk := Dd.nx } w2 ev3 ((ek.ext e1).ext e2) p2 ?_
    have S1 := (S.ext w1 e1).ext w2 e2
    exact ⟨fun ex σ4 H4 ρ4 cs4 hf e4 w4 ev4 q => ⟨_, _, e2.trans e4, w4.drop, ev4.diss w4, q⟩, S1.nx, fun ex σ4 H4 ρ4 cs4 hf e4 w4 ev4 q => ⟨_, _, e2.trans e4, w4.drop, ev4.diss w4, q⟩, S1.rt, S1.rf⟩
  · have e : t = n := by omega
    subst e
    exact .inl ⟨z2, S.nx [] σ2 H2 ρ2 cs2 (fun _ z => nomatch z) (e1.trans e2) w2 ev2 (hd ρ2 cs2 i2)⟩
/-! ### a def keeps its promise -/
theorem ev_start {as : List Addr} {H : Hp} {vs : List V} {ss : List Sl} (N : List Str) (h : Ar K H as vs ss) : Ev K H as (L2.start N vs) (ss ++ List.replicate (N.length - ss.length) .no) := by
  have e := pr_len h
  unfold L2.start
  rw [e]
  have go : ∀ {l : List V} {m : List Sl}, Ar K H as l m → Ev K H as (l.map some ++ List.replicate (N.length - ss.length) none) (m ++ List.replicate (N.length - ss.length) .no) := fun {l m} q => by
    induction q with
    | nil =>
      have rep : ∀ n, Ev K H as (List.replicate n none) (List.replicate n .no) := fun n => by
        induction n with
        | zero => exact .nil
        | succ n ih => rw [List.replicate_succ, List.replicate_succ]; exact .cons trivial ih
      exact rep _
    | cons r _ ih => exact .cons r.1 ih
  exact go h
def DN0 (Qd : PyData → CS → Prop) (Qn : List PyData → CS → Prop) (Ed : XD) : DN where
  m := 0
  nx := fun k _ cs => Qd .none (cs.drop k)
  rt := Qd
  rf := Qn
  bk := fun _ _ _ => False
  ct := fun _ _ _ => False
  ex := Ed
section
variable {P : Program} {w : World} {mg : Str → Option Value} {base : Heap} {name qual : Str} {st : Stmt} {a : Addr} {fd : FuncData} {N ps : List Str} {k : Nat} {dvs : List V} {kws : List (Str × V)}
theorem cal_of {f : FD} {ds : DS} (F : FunD K name qual (defArgs st) (defBody st) (defScope st) dvs kws a fd) (S : FnScope N ps (defScope st)) (hb : Binds K fd ps []) (hm : mg name = some (.ref a)) (hlen : ∀ ss cs Ed Q, f ss cs Ed Q → ss.length = ps.length)
    (body : ∀ (cdv : Value) (A : Around) (outer : List Env) (s : Shared) (H : Hp) (E : XK), Room k (A.deeper (envOfC qual (defScope st) s.heap.objs.size a cdv)) → QSs (cxOf (L2.CX P w) P w K mg base N qual (defScope st) a cdv A outer s H E) E (defBody st) ds)
    (hf : ∀ ss cs Ed Qd, f ss cs Ed Qd → ds (DN0 Qd (fun _ _ => False) Ed) (ss ++ List.replicate (N.length - ss.length) .no) cs) : Cal P w K mg base (k + 1) name ps f := by
  refine ⟨a, fd, hm, F.kp, F.ok S (fun vs H Q E h => ?_) (fun cdv A outer s H vs Q E hr h => ?_), hb⟩
  · obtain ⟨as, ss, cs, Ed, Qd, _, h2, _, h4, _⟩ := h
    rw [pr_len h2]
    exact hlen _ _ _ _ h4
  · obtain ⟨as, ss, cs, Ed, Qd, h1, h2, h3, h4, h5⟩ := h
    obtain ⟨t, b1, b2⟩ := (body cdv A outer s H E hr).ex
    refine ⟨t, b1, b2 as _ H _ cs _ (DN0 Qd (fun _ _ => False) Ed) h1 (ev_start N h2) h3 (hf _ _ _ _ h4) ⟨fun ex σ' H' ρ' cs' hf e w' ev q => ?_, fun ex σ' H' ρ' cs' hf e w' ev q => q.elim, fun ex σ' H' ρ' cs' hf e w' ev q => q.elim, fun v H' x cs' e w' d q => ?_, fun p H' ds cs' e f' w' q => q.elim⟩⟩
    · exact h5 .non H' .none _ e w'.drop .non q
    · exact h5 v H' x cs' e w' d q
/-- a def that hands back a new list -/
abbrev FN := List Sl → CS → XD → (List PyData → CS → Prop) → Prop
def spN (K : Frag) (f : FN) : Sp := fun vs H Q E => ∃ (as : List Addr) (ss : List Sl) (cs : CS) (Ed : XD) (Qn : List PyData → CS → Prop), Wk K H as cs ∧ Ar K H as vs ss ∧ EK K E Ed as H ∧ f ss cs Ed Qn ∧
  ∀ p H' ds cs', Ext as H H' → H p = none → Wk K H' (p :: as) (ds :: cs') → Qn ds cs' → Q (.ref p) H'
structure CalN (P : Program) (w : World) (K : Frag) (mg : Str → Option Value) (base : Heap) (k : Nat) (name : Str) (ps : List Str) (f : FN) : Prop where
  ex : ∃ (a : Addr) (fd : FuncData), mg name = some (.ref a) ∧ PySem.W.keepIn K (.ref a) = true ∧ FnOk P w K mg base (L2.CX P w) k a fd ps (spN K f) ∧ Binds K fd ps []
theorem calN_of {f : FN} {ds : DS} (F : FunD K name qual (defArgs st) (defBody st) (defScope st) dvs kws a fd) (S : FnScope N ps (defScope st)) (hb : Binds K fd ps []) (hm : mg name = some (.ref a)) (hlen : ∀ ss cs Ed Q, f ss cs Ed Q → ss.length = ps.length)
    (body : ∀ (cdv : Value) (A : Around) (outer : List Env) (s : Shared) (H : Hp) (E : XK), Room k (A.deeper (envOfC qual (defScope st) s.heap.objs.size a cdv)) → QSs (cxOf (L2.CX P w) P w K mg base N qual (defScope st) a cdv A outer s H E) E (defBody st) ds)
    (hf : ∀ ss cs Ed Qn, f ss cs Ed Qn → ds (DN0 (fun _ _ => False) Qn Ed) (ss ++ List.replicate (N.length - ss.length) .no) cs) : CalN P w K mg base (k + 1) name ps f := by
  refine ⟨a, fd, hm, F.kp, F.ok S (fun vs H Q E h => ?_) (fun cdv A outer s H vs Q E hr h => ?_), hb⟩
  · obtain ⟨as, ss, cs, Ed, Qd, _, h2, _, h4, _⟩ := h
    rw [pr_len h2]
    exact hlen _ _ _ _ h4
  · obtain ⟨as, ss, cs, Ed, Qn, h1, h2, h3, h4, h5⟩ := h
    obtain ⟨t, b1, b2⟩ := (body cdv A outer s H E hr).ex
    refine ⟨t, b1, b2 as _ H _ cs _ (DN0 (fun _ _ => False) Qn Ed) h1 (ev_start N h2) h3 (hf _ _ _ _ h4) ⟨fun ex σ' H' ρ' cs' hf e w' ev q => q.elim, fun ex σ' H' ρ' cs' hf e w' ev q => q.elim, fun ex σ' H' ρ' cs' hf e w' ev q => q.elim, fun v H' x cs' e w' d q => q.elim, fun p H' ds cs' e f' w' q => ?_⟩⟩
    rcases f' with f' | f'
    · exact h5 p H' ds cs' e f' w' q
    · have f2 : p ∈ as.take 0 := f'
      simp at f2
end
def dNCall (f : FN) (da : DA) : DL := fun ρ cs Ed Q => da ρ cs Ed fun ss cs1 => f ss cs1 Ed Q
theorem q_ncall {k : Nat} {name : Str} {ps : List Str} {f : FN} {e : Expr} {es : List Expr} {p pos : Pos} {da : DA} (F : CalN X.prog X.w X.K X.mg X.base k name ps f) (hr : Room k X.A) (hx : Passes (L2.CX X.prog X.w) X E) (ha : QA X E (e :: es) da)
    (hg : Gl X name := by rfl) (hdb : (name == ("__debug__" : Str)) = false := by decide) (he : starEach (e :: es) X.env = (false, eval e X.env) :: starEach es X.env := by rfl) (hpl : (backTo pos (starEach es X.env)).any (·.1) = false := by rfl) :
    QN X E (.Call (.Name name p) (e :: es) [] pos) (dNCall f da) := by
  obtain ⟨a, fd, h1, h2, h3, h4⟩ := F.ex
  obtain ⟨ta, a1, a2⟩ := ha.ex
  refine ⟨_, pe_call h3 hr hg h1 h2 h4 .nil hx a1 hdb he hpl, fun as σ H ρ cs Ed Qd Q w ev ek h k => a2 as σ H ρ cs Ed _ _ w ev ek h fun vs H1 ss cs1 e1 w1 d1 h1 => ?_⟩
  exact ⟨as, ss, cs1, Ed, Qd, w1, by rw [List.append_nil]; exact d1, ek.ext e1, h1, fun p H' ds cs' e2 hp w2 q => k p H' ds cs' (e1.trans e2) (fresh_of w1 e1 hp) w2 q⟩
theorem Wk.mid {H : Hp} {as : List Addr} {cs : CS} {p : Addr} {ds : List PyData} (m : Nat) (w : Wk K H (p :: as) (ds :: cs)) : Wk K H (p :: as.drop m) (ds :: cs.drop m) := by
  have s : Same (hid H (p :: as)) (hid H (p :: as.drop m)) := fun b o h => by
    obtain ⟨h1, h2⟩ := hid_of h
    rw [hid_out fun z => h1 ((List.mem_cons.mp z).elim (fun q => by rw [q]; exact List.mem_cons_self) fun q => List.mem_cons_of_mem _ (List.mem_of_mem_drop q))]
    exact h2
  refine ⟨w.nd.sublist ((List.drop_sublist m as).cons₂ p), ?_⟩
  cases w.cel with
  | cons c t =>
    obtain ⟨xs, c1, c2⟩ := c
    exact .cons ⟨xs, c1, c2.mono s⟩ (pr_map (fun b es ⟨ys, y1, y2⟩ => ⟨ys, y1, y2.mono s⟩) (pr_dropn m t))
/-- return a new list -/
def dRetL (d : DL) : DS := fun Dd ρ cs => d ρ cs Dd.ex fun ds cs1 => Dd.rf ds cs1
theorem q_retL {e : Expr} {pos : Pos} {d : DL} (h : QN X E e d) : QS X E (.Return (some e) pos) (dRetL d) := by
  obtain ⟨t, a1, a2⟩ := h.ex
  exact ⟨_, ps_ret a1, fun as σ H ρ cs D Dd w ev ek h S => a2 as σ H ρ cs Dd.ex _ _ w ev ek h fun p H1 ds cs1 e1 hp w1 h1 => S.rf p H1 ds cs1 e1 (.inl hp) (w1.mid _) h1⟩
/-! ### the law -/
def fLaw (n : Nat) : FD := fun ss cs _ Q => cs = [] ∧ ∃ ns : List Int, ss = [.f (ns.map .int)] ∧ ns.length ≤ n ∧ Q (.bool true) []
theorem dq_ints {H : Hp} : ∀ ns : List Int, DqAll K H (ns.map V.int) (ns.map PyData.int)
  | [] => .nil
  | n :: r => .cons (.int n) (dq_ints r)
theorem sp_law {H : Hp} {a : Addr} {ns : List Int} {n : Nat} (hl : ns.length ≤ n) (hS : SqL K H a (ns.map V.int)) : spD K (fLaw n) [.ref a] H (fun v _ => v = .bl true) fun _ _ _ => False :=
  ⟨[], [.f (ns.map .int)], [], fun _ _ => False, fun x _ => x = .bool true, Wk.nil, .cons ⟨⟨a, _, rfl, by rw [hid_nil]; exact hS, dq_ints ns⟩, fun z => by cases z⟩ .nil, fun _ _ _ _ _ z => z, ⟨rfl, ns, rfl, hl, rfl⟩, fun v H' x cs' _ _ d q => by
    subst q
    cases d
    rfl⟩
end
end Kp

namespace Kp
open PySem PySem.Spec PyProof.Rows L2
section
variable {K : Frag} {E : XK} {X : Cx}
/-! ### ** of any base, -x -/
def CPowW (i j : Int) : Prop := 0 ≤ j ∧ (Builtin.Int.intBits i : Int) * j ≤ 2 ^ 27
theorem op_powW : OpR X (binaryOp .Pow) (rI CPowW fun i j => .int (i ^ j.toNat)) := opI fun _ _ _ _ _ _ _ hc q => pow_int hc.1 hc.2 q
theorem sr_powW : SR K (rI CPowW fun i j => .int (i ^ j.toNat)) (dI CPowW fun i j => .int (i ^ j.toNat)) := sr_I fun _ _ _ => .int _
theorem powW_of {i : Int} {j : Int} (h1 : -(2 ^ 64) < i) (h2 : i < 2 ^ 64) (h3 : 0 ≤ j) (h4 : j ≤ 1000000) : CPowW i j := by
  refine ⟨h3, ?_⟩
  have hb : Builtin.Int.intBits i ≤ 64 := intBits_le_64 h1 h2
  have hb' : (Builtin.Int.intBits i : Int) ≤ 64 := by omega
  have m1 : (Builtin.Int.intBits i : Int) * j ≤ 64 * j := Int.mul_le_mul_of_nonneg_right hb' h3
  omega
def dNeg (da : DE) : DE := fun ρ cs Ed Q => da ρ cs Ed fun x cs1 => match x with
  | .int i => Q (.int (-i)) cs1
  | _ => False
theorem q_neg {a : Expr} {pos : Pos} {da : DE} (ha : QE X E a da) : QE X E (.UnaryOp .USub a pos) (dNeg da) := by
  obtain ⟨ta, a1, a2⟩ := ha.ex
  refine ⟨_, pe_un un_neg a1, fun as σ H ρ cs Ed Qd Q w e ek h k => a2 as σ H ρ cs Ed _ _ w e ek h fun v H1 x cs1 e1 w1 d1 h1 => ?_⟩
  cases d1 <;> try exact h1.elim
  exact ⟨_, rfl, k _ H1 _ cs1 e1 w1 (.int _) h1⟩

/-! ### the best reading that data give: the same for every context -/
def tOfE (K : Frag) (E : XK) (d : DE) : TE := fun σ H Q => ∃ (as : List Addr) (ρ : List Sl) (cs : CS) (Ed : XD) (Qd : PyData → CS → Prop), Wk K H as cs ∧ Ev K H as σ ρ ∧ EK K E Ed as H ∧ d ρ cs Ed Qd ∧
  ∀ v H' x cs', Ext as H H' → Wk K H' as cs' → Dq K (hid H' as) v x → Qd x cs' → Q v H'
theorem QE.can {e : Expr} {d : DE} (h : QE X E e d) : PE X e (tOfE X.K E d) := by
  obtain ⟨t, a1, a2⟩ := h.ex
  refine ⟨fun pins s σ H Q I q => a1.run pins s σ H Q I ?_⟩
  obtain ⟨as, ρ, cs, Ed, Qd, h1, h2, h3, h4, h5⟩ := q
  exact a2 as σ H ρ cs Ed Qd Q h1 h2 h3 h4 h5
theorem se_can {d : DE} : SE K E (tOfE K E d) d := fun as σ H ρ cs Ed Qd Q w e ek h k => ⟨as, ρ, cs, Ed, Qd, w, e, ek, h, k⟩
def tOfT (K : Frag) (E : XK) (d : DT) : TT := fun σ H Q => ∃ (as : List Addr) (ρ : List Sl) (cs : CS) (Ed : XD) (Qd : Bool → CS → Prop), Wk K H as cs ∧ Ev K H as σ ρ ∧ EK K E Ed as H ∧ d ρ cs Ed Qd ∧
  ∀ b H' cs', Ext as H H' → Wk K H' as cs' → Qd b cs' → Q b H'
theorem QT.can {e : Expr} {d : DT} (h : QT X E e d) : PT X e (tOfT X.K E d) := by
  obtain ⟨t, a1, a2⟩ := h.ex
  refine ⟨fun pins s σ H Q I q => a1.run pins s σ H Q I ?_⟩
  obtain ⟨as, ρ, cs, Ed, Qd, h1, h2, h3, h4, h5⟩ := q
  exact a2 as σ H ρ cs Ed Qd Q h1 h2 h3 h4 h5
theorem st_can {d : DT} : ST K E (tOfT K E d) d := fun as σ H ρ cs Ed Qd Q w e ek h k => ⟨as, ρ, cs, Ed, Qd, w, e, ek, h, k⟩

/-! ### [e for x in xs], [e for x in xs if t]: one name walked -/
abbrev X0 : XD := fun _ _ => False
theorem ek0 {as : List Addr} {H : Hp} : EK K E0 X0 as H := fun _ _ _ _ _ q => q.elim
def dYes : DT := fun _ cs _ Q => Q true cs
theorem st_yes' {E : XK} : ST K E tYes dYes := fun as σ H ρ cs Ed Qd Q w e ek h k => k true H cs Ext.refl w h
/-- Inv by turns, over what is made so far and the cells; the list being made stands first among them -/
def dLc (di : DI) (i : Nat) (dt : DT) (de : DE) : DL := fun ρ cs Ed Q => di ρ cs Ed fun n item cs1 => ∃ Inv : Nat → List PyData → CS → Prop, Inv 0 [] cs1 ∧
  (∀ t acc cs, t < n → Inv t acc cs → dt ((ρ.map (shSl 1)).set i (.d (item t))) (acc :: cs) X0 fun b cs2 => if b = true
    then de ((ρ.map (shSl 1)).set i (.d (item t))) cs2 X0 fun y cs3 => match cs3 with
      | acc' :: cs' => acc'.length < sizeLine ∧ Inv (t + 1) (acc' ++ [y]) cs'
      | [] => False
    else match cs2 with
      | acc' :: cs' => Inv (t + 1) acc' cs'
      | [] => False) ∧
  ∀ acc cs, Inv n acc cs → Q acc cs
theorem wipe1 {σ : L2.St} {i : Nat} {v : V} : wipe ((wipe σ [i]).set i (some v)) [i] = wipe σ [i] := by
  show ((σ.set i none).set i (some v)).set i none = σ.set i none
  rw [List.set_set, List.set_set]
theorem Wk.head {H : Hp} {as : List Addr} {p : Addr} {cs : CS} (w : Wk K H (p :: as) cs) : ∃ acc cs' xs, cs = acc :: cs' ∧ H p = some (.lst xs) ∧ DqAll K (hid H (p :: as)) xs acc := by
  cases w.cel with
  | cons c t =>
    obtain ⟨xs, c1, c2⟩ := c
    exact ⟨_, _, xs, rfl, c1, c2⟩
theorem lc_core' {wi : TI} {i : Nat} {tt : TT} {te : TE} {di : DI} {dt : DT} {de : DE} (i2 : SI K E wi di) (t2 : ST K E0 tt dt) (e2 : SE K E0 te de) : SN K E (tLc wi (gName i) tt te [i]) (dLc di i dt de) := fun as σ H ρ cs Ed Qd Q w ev ek h k =>
  i2 as σ H ρ cs Ed _ _ w ev ek h fun J H1 n item cs1 e1 w1 it h1 D hD => by
    obtain ⟨Inv, h0, hs, hd⟩ := h1
    have ev1 := ev.ext e1
    have nD : D ∉ as := w1.fresh hD
    have w0 : Wk K (upd H1 D (.lst [])) (D :: as) ([] :: cs1) := w1.newc hD .nil
    have e0 : ∀ {H'}, Ext (D :: as) (upd H1 D (.lst [])) H' → Ext as H1 H' := fun {H'} q b o nb hb => by
      have nbD : b ≠ D := fun z => by rw [z, hD] at hb; cases hb
      exact q b o (fun z => (List.mem_cons.mp z).elim nbD nb) (by rw [upd_ne nbD]; exact hb)
    refine ⟨fun t m H' => m = n - t ∧ t ≤ n ∧ ∃ acc cs', Ext (D :: as) (upd H1 D (.lst [])) H' ∧ Wk K H' (D :: as) (acc :: cs') ∧ Inv t acc cs', ⟨n, by simp, Nat.zero_le _, [], cs1, Ext.refl, w0, h0⟩, ?_⟩
    rintro t m H2 ⟨rfl, ht, acc, cs2, x2, w2, q2⟩
    have fD : ∀ p ∈ [D], H1 p = none := fun p hp => by rw [List.mem_singleton.mp hp]; exact hD
    obtain ⟨z1, z2⟩ := it [D] H2 fD (e0 x2)
    by_cases hlt : t < n
    · obtain ⟨z3, z4⟩ := z1 t hlt
      refine .inr ⟨z3, fun H' => ∃ acc cs', Ext (D :: as) (upd H1 D (.lst [])) H' ∧ Wk K H' (D :: as) (acc :: cs') ∧ Inv (t + 1) acc cs', fun H' q => ⟨n - (t + 1), by omega, rfl, hlt, q⟩, fun x H3 y => ?_⟩
      obtain ⟨rfl, dx⟩ := z4 x H3 y
      refine ⟨wipe1, ?_⟩
      -- the slots, the new list among the cells
      have evs : Ev K H3 (D :: as) σ (ρ.map (shSl 1)) := Ev.sh (ex := [D]) fD ev1 (e0 x2)
      have ev3 : Ev K H3 (D :: as) ((wipe σ [i]).set i (some x)) ((ρ.map (shSl 1)).set i (.d (item t))) := by
        have q := ev_set (s := .d (item t)) (v := x) evs i ⟨x, rfl, dx⟩
        show Ev K H3 (D :: as) ((σ.set i none).set i (some x)) _
        rw [List.set_set]
        exact q
      refine t2 (D :: as) _ H3 _ (acc :: cs2) X0 _ _ w2 ev3 ek0 (hs t acc cs2 hlt q2) fun b H4 cs4 e4 w4 h4 => ?_
      cases b with
      | true =>
        refine iteT (e2 (D :: as) _ H4 _ cs4 X0 _ _ w4 (ev3.ext e4) ek0 (show de _ cs4 X0 _ by simpa using h4) fun y' H5 yd cs5 e5 w5 d5 h5 => ?_)
        obtain ⟨acc5, cs5', xs5, rfl, g1, g2⟩ := w5.head
        obtain ⟨h6, h7⟩ := h5
        refine ⟨xs5, g1, by rw [g2.len]; exact h6, _, _, ((x2.trans e4).trans e5).trans (ext_upd List.mem_cons_self), ?_, h7⟩
        exact w5.put (j := 0) rfl (g2.app (.one d5))
      | false =>
        obtain ⟨acc5, cs5', xs5, rfl, g1, g2⟩ := w4.head
        exact iteF ⟨_, _, x2.trans e4, w4, by simpa using h4⟩
    · have e : t = n := by omega
      subst e
      refine .inl ⟨z2, k D H2 acc cs2 (e1.trans (e0 x2)) (fresh_of w1 e1 hD) w2 (hd acc cs2 q2)⟩
theorem q_lc {elt tg iter : Expr} {scope : Scope} {pos : Pos} {di : DI} {de : DE} {x : Str} (i : Nat) (hc : X.calm = true) (hN : X.N.Nodup) (hi : QI X E tg iter di) (ok : BlkOk X.N X.env.scope scope [(x, i)])
    (hg : ∀ (s : Shared) (H : Hp) (C : Addr) (cl : List (Str × Addr)) (fp : List Addr), PG (X.blk s H scope (compEnvC scope cl C X.env) fp) tg (gName i))
    (he : ∀ (s : Shared) (H : Hp) (C : Addr) (cl : List (Str × Addr)) (fp : List Addr), QE (X.blk s H scope (compEnvC scope cl C X.env) fp) E0 elt de)
    (hs : ∀ x, foldedSetIterable iter X.env x = pure x := by intro _; rfl) : QN X E (.ListComp elt [⟨tg, iter, [], 0⟩] scope pos) (dLc di i dYes de) := by
  obtain ⟨wi, i1, i2⟩ := hi.ex
  exact ⟨_, pe_lc (own := [(x, i)]) (g := gName i) (tt := tYes) (te := tOfE X.K E0 de) hc hN i1 ok hg (fun _ _ _ _ _ => pts_nil) (fun s H C cl fp => (he s H C cl fp).can) hs, lc_core' i2 st_yes' se_can⟩
theorem q_lcif {elt tg iter c : Expr} {scope : Scope} {pos : Pos} {di : DI} {dt : DT} {de : DE} {x : Str} (i : Nat) (hc : X.calm = true) (hN : X.N.Nodup) (hi : QI X E tg iter di) (ok : BlkOk X.N X.env.scope scope [(x, i)])
    (hg : ∀ (s : Shared) (H : Hp) (C : Addr) (cl : List (Str × Addr)) (fp : List Addr), PG (X.blk s H scope (compEnvC scope cl C X.env) fp) tg (gName i))
    (ht : ∀ (s : Shared) (H : Hp) (C : Addr) (cl : List (Str × Addr)) (fp : List Addr), QT (X.blk s H scope (compEnvC scope cl C X.env) fp) E0 c dt)
    (he : ∀ (s : Shared) (H : Hp) (C : Addr) (cl : List (Str × Addr)) (fp : List Addr), QE (X.blk s H scope (compEnvC scope cl C X.env) fp) E0 elt de)
    (hs : ∀ x, foldedSetIterable iter X.env x = pure x := by intro _; rfl) : QN X E (.ListComp elt [⟨tg, iter, [c], 0⟩] scope pos) (dLc di i dt de) := by
  obtain ⟨wi, i1, i2⟩ := hi.ex
  exact ⟨_, pe_lc (own := [(x, i)]) (g := gName i) (tt := tOfT X.K E0 dt) (te := tOfE X.K E0 de) hc hN i1 ok hg (fun s H C cl fp => pts_one (ht s H C cl fp).can) (fun s H C cl fp => (he s H C cl fp).can) hs, lc_core' i2 st_can se_can⟩
end
end Kp

namespace Kp
open PySem PySem.Spec PyProof.Rows L2
/-! ### ways -/
theorem ifT {c : Bool} {A B : Prop} (hc : c = true) (h : A) : if c = true then A else B := by rw [if_pos hc]; exact h
theorem ifF {c : Bool} {A B : Prop} (hc : c = false) (h : B) : if c = true then A else B := by rw [hc, if_neg Bool.false_ne_true]; exact h
theorem if2 {c : Bool} {A B : Prop} (h1 : c = true → A) (h2 : c = false → B) : if c = true then A else B := by
  cases c with
  | true => exact ifT rfl (h1 rfl)
  | false => exact ifF rfl (h2 rfl)
theorem nT {b : Bool} (h : b = true) : (!b) = false := by rw [h]; rfl
theorem nF {b : Bool} (h : b = false) : (!b) = true := by rw [h]; rfl
theorem dT {c : Prop} [Decidable c] (h : c) : decide c = true := decide_eq_true h
theorem dF {c : Prop} [Decidable c] (h : ¬ c) : decide c = false := decide_eq_false h
theorem dT' {c : Prop} [Decidable c] (h : decide c = true) : c := of_decide_eq_true h
theorem dF' {c : Prop} [Decidable c] (h : decide c = false) : ¬ c := of_decide_eq_false h
/-- if (not b): the other way -/
theorem ifNT {b : Bool} {A B : Prop} (hb : b = true) (h : B) : if (!b) = true then A else B := ifF (nT hb) h
theorem ifNF {b : Bool} {A B : Prop} (hb : b = false) (h : A) : if (!b) = true then A else B := ifT (nF hb) h
theorem ifDT {c : Prop} [Decidable c] {A B : Prop} (hc : c) (h : A) : if (decide c) = true then A else B := ifT (dT hc) h
theorem ifDF {c : Prop} [Decidable c] {A B : Prop} (hc : ¬ c) (h : B) : if (decide c) = true then A else B := ifF (dF hc) h
theorem ifD2 {c : Prop} [Decidable c] {A B : Prop} (h1 : c → A) (h2 : ¬ c → B) : if (decide c) = true then A else B := if2 (fun h => h1 (dT' h)) fun h => h2 (dF' h)
theorem eqv_int (i j : Int) : PyData.eqv (.int i) (.int j) = decide (i = j) := by
  show (i == j) = decide (i = j)
  by_cases h : i = j
  · rw [h, decide_eq_true rfl]; simp
  · rw [decide_eq_false h]; simp [h]
theorem le_line {n : Nat} (h : n ≤ 100000) : n ≤ sizeLine := Nat.le_trans h (by decide)
theorem lt_line {n : Nat} (h : n ≤ 100000) : n < sizeLine := Nat.lt_of_le_of_lt h (by decide)
end Kp
namespace Kp
open PySem PySem.Spec PyProof.Rows L2
theorem at_data {xs : List PyData} {z : Int} {d : PyData} (e : 0 ≤ z) (h : xs[z.toNat]? = some d) : atI xs z = some d := by
  have q : z = (z.toNat : Int) := by omega
  rw [q]
  exact atI_nat h
end Kp
namespace Kp
open PySem PySem.Spec PyProof.Rows L2
/-- ints within -/
inductive AllI (lo hi : Int) : List PyData → Prop
  | nil : AllI lo hi []
  | cons {z : Int} {ds : List PyData} : lo ≤ z → z ≤ hi → AllI lo hi ds → AllI lo hi (.int z :: ds)
theorem AllI.get {lo hi : Int} : ∀ {ds : List PyData} {i : Nat}, AllI lo hi ds → i < ds.length → ∃ z, ds[i]? = some (.int z) ∧ lo ≤ z ∧ z ≤ hi
  | _, _, .nil, h => absurd h (Nat.not_lt_zero _)
  | _, 0, .cons h1 h2 _, _ => ⟨_, rfl, h1, h2⟩
  | _, i + 1, .cons _ _ t, h => by
    obtain ⟨z, h3, h4⟩ := AllI.get (i := i) t (by simpa using h)
    exact ⟨z, by simpa using h3, h4⟩
theorem pickI {lo hi : Int} {ds : List PyData} {i : Int} (h : AllI lo hi ds) (h0 : 0 ≤ i) (h1 : i < (ds.length : Int)) : ∃ z, atI ds i = some (.int z) ∧ lo ≤ z ∧ z ≤ hi := by
  obtain ⟨z, h2, h3⟩ := h.get (i := i.toNat) (by omega)
  exact ⟨z, at_data h0 h2, h3⟩
theorem AllI.app {lo hi : Int} : ∀ {xs ys : List PyData}, AllI lo hi xs → AllI lo hi ys → AllI lo hi (xs ++ ys)
  | _, _, .nil, h => h
  | _, _, .cons a b t, h => .cons a b (AllI.app t h)
theorem AllI.mono {lo hi lo' hi' : Int} (h1 : lo' ≤ lo) (h2 : hi ≤ hi') : ∀ {xs : List PyData}, AllI lo hi xs → AllI lo' hi' xs
  | _, .nil => .nil
  | _, .cons a b t => .cons (by omega) (by omega) (AllI.mono h1 h2 t)
theorem AllI.lay {lo hi : Int} : ∀ {ds : List PyData}, AllI lo hi ds → PyData.canLayAll0 ds = true ∧ PyData.depthAll ds ≤ 1
  | _, .nil => ⟨rfl, by decide⟩
  | _, .cons (z := z) (ds := ds) _ _ t => by
    obtain ⟨h1, h2⟩ := AllI.lay t
    refine ⟨?_, ?_⟩
    · show (PyData.canLay0 (.int z) && PyData.canLayAll0 ds) = true
      rw [h1]; rfl
    · show max (PyData.depth (.int z)) (PyData.depthAll ds) ≤ 1
      exact Nat.max_le.mpr ⟨by show 0 ≤ 1; decide, h2⟩
theorem AllI.shT {lo hi : Int} {ds : List PyData} (h : AllI lo hi ds) : SeqAt.shaped (.tuple ds) = true := by
  obtain ⟨h1, h2⟩ := h.lay
  show (PyData.canLayAll0 ds && decide (PyData.depthAll ds + 1 ≤ 64)) = true
  rw [h1, decide_eq_true (by omega)]; rfl
theorem AllI.shL {lo hi : Int} {ds : List PyData} (h : AllI lo hi ds) : SeqAt.shaped (.list ds) = true := by
  obtain ⟨h1, h2⟩ := h.lay
  show (PyData.canLayAll0 ds && decide (PyData.depthAll ds + 1 ≤ 64)) = true
  rw [h1, decide_eq_true (by omega)]; rfl
end Kp

namespace Kp
open PySem PySem.Spec PyProof.Rows L2
/-! ### a law's walk, calls that may let an exception out -/
theorem walk_x {l : PySem.W.OpenLaw} {n k : Nat} {q : Program} {loose : List Str} {XP : (Str → Option Value) → Heap → Prop} {YP : World → Heap → Prop} {d : DefRec} {x : Str} (hn : l.most = some n) (hn2 : n ≤ sizeLine) (hdf : d.params.defaults = []) (hr : Room k callerA)
    (F : ∀ (w : World) (mg : Str → Option Value) (fa : Addr) (h : Heap), YP w h → h.Ns mainGlobals mg → mg d.name = some (.ref fa) → ∃ (K : Frag) (fd : FuncData), K.In h ∧ (∀ (s : Shared) (u : Value), BindsTo s fd ⟨[u], []⟩ [(x, u)]) ∧
        ∀ base : Heap, K.In base → base.Ns mainGlobals mg → FnOk l.prog w K mg base (L2.CX l.prog w) k fa fd [x] (spD K (fLaw n))) :
    PySem.W.WalkO q loose XP YP l.row.toRowW d [] (fun f vs => PySem.call f vs) := by
  refine Att.attach_call hn hdf fun wd sA sB m1 m2 af ob pa co dc la us js Z1 Z2 z1 z2 z3 z4 z5 z6 z7 z8 => ?_
  obtain ⟨K, fd, q1, q2, q3⟩ := F wd m1 af _ Z2 Z1.T.g z4
  refine law_call q1 Z1.T.g Z1.T.b Z1.T.builtins Z1.T.nolimit z8 z5 z6 (Nat.le_trans z7 hn2) hr q3 q2 (fun _ _ hS => sp_law z7 hS) ?_
  rintro _ _ _ ⟨_, _, _, _, _, _, _, _, _, _, _, _, bad⟩
  exact bad
section
variable {P : Program} {w : World} {K : Frag} {mg : Str → Option Value} {base : Heap} {name qual : Str} {st : Stmt} {a : Addr} {fd : FuncData} {N ps : List Str} {k : Nat} {dvs : List V} {kws : List (Str × V)}
theorem fn_of {f : FD} {ds : DS} (F : FunD K name qual (defArgs st) (defBody st) (defScope st) dvs kws a fd) (S : FnScope N ps (defScope st)) (hlen : ∀ ss cs Ed Q, f ss cs Ed Q → ss.length = ps.length)
    (body : ∀ (cdv : Value) (A : Around) (outer : List Env) (s : Shared) (H : Hp) (E : XK), Room k (A.deeper (envOfC qual (defScope st) s.heap.objs.size a cdv)) → QSs (cxOf (L2.CX P w) P w K mg base N qual (defScope st) a cdv A outer s H E) E (defBody st) ds)
    (hf : ∀ ss cs Ed Qd, f ss cs Ed Qd → ds (DN0 Qd (fun _ _ => False) Ed) (ss ++ List.replicate (N.length - ss.length) .no) cs) : FnOk P w K mg base (L2.CX P w) (k + 1) a fd ps (spD K f) := by
  refine F.ok S (fun vs H Q E h => ?_) (fun cdv A outer s H vs Q E hr h => ?_)
  · obtain ⟨as, ss, cs, Ed, Qd, _, h2, _, h4, _⟩ := h
    rw [pr_len h2]
    exact hlen _ _ _ _ h4
  · obtain ⟨as, ss, cs, Ed, Qd, h1, h2, h3, h4, h5⟩ := h
    obtain ⟨t, b1, b2⟩ := (body cdv A outer s H E hr).ex
    refine ⟨t, b1, b2 as _ H _ cs _ (DN0 Qd (fun _ _ => False) Ed) h1 (ev_start N h2) h3 (hf _ _ _ _ h4) ⟨fun ex σ' H' ρ' cs' hf e w' ev q => ?_, fun ex σ' H' ρ' cs' hf e w' ev q => q.elim, fun ex σ' H' ρ' cs' hf e w' ev q => q.elim, fun v H' x cs' e w' d q => ?_, fun p H' ds cs' e f' w' q => q.elim⟩⟩
    · exact h5 .non H' .none _ e w'.drop .non q
    · exact h5 v H' x cs' e w' d q
end
end Kp

namespace Kp
open PySem PySem.Spec PyProof.Rows L2
section
variable {K : Frag}
/-! ### max, min of three -/
def big2 (i j : Int) : Int := if j > i then j else i
def cMax3 : RC := fun ds Q => match ds with
  | [.int i, .int j, .int l] => Q (.int (big2 (big2 i j) l))
  | _ => False
theorem nu_big (i j : Int) : nuMax2 (.int i) (.int j) = some (.int (big2 i j)) := by
  show (some (decide (i < j))).map (fun c => if c = true then V.int j else V.int i) = _
  unfold big2
  by_cases h : i < j
  · rw [decide_eq_true h, if_pos h]; rfl
  · rw [decide_eq_false h, if_neg h]; rfl
theorem sc_max3 : SC K (rNuC3 nuMax3) cMax3 := fun as H cs vs ds Qd Q w d h k => by
  match ds, d with
  | [.int i, .int j, .int l], .cons (.int _) (.cons (.int _) (.cons (.int _) .nil)) =>
    refine ⟨_, _, _, _, rfl, ?_, k _ H _ (Same.refl H) (.int _) h⟩
    show (nuMax2 (.int i) (.int j)).bind (fun m => nuMax2 m (.int l)) = _
    rw [nu_big]
    exact nu_big _ _
/-! ### return [e, ..], return (e, ..): the def's own cells among them -/
def allC (m : Nat) (cs : CS) : List Sl → Option (List PyData)
  | [] => some []
  | .d x :: r => (allC m cs r).map (x :: ·)
  | .c j :: r => if j < m then (match cs[j]? with
    | some ds => (allC m cs r).map (.list ds :: ·)
    | none => none) else none
  | _ :: _ => none
theorem allC_ok {as : List Addr} {H : Hp} {m : Nat} {cs : CS} (w : Wk K H as cs) : ∀ {vs : List V} {ss : List Sl} {ds : List PyData}, Ar K H as vs ss → allC m cs ss = some ds → DqAll K (hid H (as.drop m)) vs ds
  | _, _, _, .nil, e => by
    cases (show some [] = some _ from e)
    exact .nil
  | _, s :: r, ds, .cons h t, e => by
    cases s with
    | no => exact (h.2 rfl).elim
    | f _ => cases e
    | d x =>
      have e2 : (allC m cs r).map (x :: ·) = some ds := e
      cases q : allC m cs r with
      | none => rw [q] at e2; cases e2
      | some rs =>
        rw [q] at e2
        cases e2
        obtain ⟨v, h1, h2⟩ := h.1
        cases h1
        exact .cons (h2.mono (hid_drop m)) (allC_ok w t q)
    | c j =>
      have e2 : (if j < m then (match cs[j]? with
        | some ds => (allC m cs r).map (.list ds :: ·)
        | none => none) else none) = some ds := e
      by_cases hj : j < m
      · rw [if_pos hj] at e2
        obtain ⟨a, h1, h2⟩ := h.1
        cases h2
        cases q1 : cs[j]? with
        | none => rw [q1] at e2; cases e2
        | some es =>
          rw [q1] at e2
          have e3 : (allC m cs r).map (PyData.list es :: ·) = some ds := e2
          cases q : allC m cs r with
          | none => rw [q] at e3; cases e3
          | some rs =>
            rw [q] at e3
            cases e3
            obtain ⟨a2, h3, xs, h4, h5⟩ := pr_get w.cel q1
            rw [h1] at h3
            cases h3
            exact .cons (.lst (by rw [hid_out (nd_drop w.nd h1 hj)]; exact h4) (h5.mono (hid_drop m))) (allC_ok w t q)
      · rw [if_neg hj] at e2
        cases e2
def dRetLC (da : DA) : DS := fun Dd ρ cs => da ρ cs Dd.ex fun ss cs1 => match allC Dd.m cs1 ss with
  | some ds => ds.length ≤ sizeLine ∧ Dd.rt (.list ds) cs1
  | none => False
def dRetTC (da : DA) : DS := fun Dd ρ cs => da ρ cs Dd.ex fun ss cs1 => match allC Dd.m cs1 ss with
  | some ds => ds.length ≤ sizeLine ∧ Dd.rt (.tuple ds) cs1
  | none => False
theorem not_drop {as : List Addr} {p : Addr} (h : p ∉ as) (m : Nat) : p ∉ as.drop m := fun z => h (List.mem_of_mem_drop z)
theorem q_retLC {X : Cx} {E : XK} {es : List Expr} {p1 pos : Pos} {da : DA} (ha : QA X E es da) : QS X E (.Return (some (.List es p1)) pos) (dRetLC da) := by
  obtain ⟨ta, a1, a2⟩ := ha.ex
  refine ⟨_, ps_ret (pe_lst a1), fun as σ H ρ cs D Dd w ev ek h S => a2 as σ H ρ cs Dd.ex _ _ w ev ek h fun vs H1 ss cs1 e1 w1 d1 h1 => ?_⟩
  cases q : allC Dd.m cs1 ss with
  | none => rw [q] at h1; exact h1.elim
  | some ds =>
    rw [q] at h1
    have d2 := allC_ok w1 d1 q
    exact ⟨by rw [d2.len]; exact h1.1, fun p hp => S.rt _ _ _ cs1 (e1.trans (Ext.of (Same.new hp))) (w1.grow (Same.new hp)) (.lst (hid_new (not_drop (w1.fresh hp) _)) (d2.mono (new_mono hp))) h1.2⟩
theorem q_retTC {X : Cx} {E : XK} {es : List Expr} {x1 : Nat} {p1 pos : Pos} {da : DA} (ha : QA X E es da) : QS X E (.Return (some (.Tuple es x1 p1)) pos) (dRetTC da) := by
  obtain ⟨ta, a1, a2⟩ := ha.ex
  refine ⟨_, ps_ret (pe_tup a1), fun as σ H ρ cs D Dd w ev ek h S => a2 as σ H ρ cs Dd.ex _ _ w ev ek h fun vs H1 ss cs1 e1 w1 d1 h1 => ?_⟩
  cases q : allC Dd.m cs1 ss with
  | none => rw [q] at h1; exact h1.elim
  | some ds =>
    rw [q] at h1
    have d2 := allC_ok w1 d1 q
    exact ⟨by rw [d2.len]; exact h1.1, fun p hp => S.rt _ _ _ cs1 (e1.trans (Ext.of (Same.new hp))) (w1.grow (Same.new hp)) (.tup (SqT.of (hid_new (not_drop (w1.fresh hp) _))) (d2.mono (new_mono hp))) h1.2⟩
/-! ### a stop between two statements -/
theorem d_mid {d1 rest : DS} {Dd : DN} {ρ : List Sl} {cs : CS} (Mid : List Sl → CS → Prop) (hB : ∀ Dd' : DN, Dd'.m = Dd.m → Dd'.rt = Dd.rt → (∀ ρ' cs', Mid ρ' cs' → Dd'.nx 0 ρ' cs') → d1 Dd' ρ cs) (hA : ∀ ρ' cs', Mid ρ' cs' → rest (Dd.push 0) ρ' cs') : dSeq d1 rest Dd ρ cs := hB _ rfl rfl hA
end
end Kp

namespace Kp
open PySem PySem.Spec PyProof.Rows L2
/-! ### repr: nothing is being shown around it -/
/-- its text, where it may be shown -/
def showB (d : PyData) : Bool := d.showable && (!d.hasDict && (SeqAt.shaped d && decide (d.shown.length ≤ sizeLine)))
def reprD : PyData → Str
  | .bool b => if b then "True" else "False"
  | .none => "None"
  | d => d.shown
def cRepr : RC := fun ds Q => match ds with
  | [.bool b] => Q (.str (reprD (.bool b)))
  | [.none] => Q (.str (reprD .none))
  | [.tuple xs] => showB (.tuple xs) = true ∧ Q (.str (reprD (.tuple xs)))
  | [.list xs] => showB (.list xs) = true ∧ Q (.str (reprD (.list xs)))
  | [.int i] => i.natAbs.log2 < 1920 ∧ Q (.str (toString i))
  | _ => False
def rRepr (K : Frag) : List V → Hp → VK → Prop := fun xs H Q =>
  (∃ b, xs = [.bl b] ∧ Q (.str (reprD (.bool b))) H) ∨ (xs = [.non] ∧ Q (.str (reprD .none)) H) ∨ (∃ i, xs = [.int i] ∧ i.natAbs.log2 < 1920 ∧ Q (.str (toString i)) H) ∨ ∃ a d, xs = [.ref a] ∧ Dp K H (.ref a) d ∧ showB d = true ∧ Q (.str d.shown) H
theorem call_repr_d {X : Cx} (hg : X.A.guards = some []) (hu : X.A.units + 100 < cLine) : CallR X (.builtin "repr") (rRepr X.K) := by
  intro pins s σ H xs us Q I r h
  rcases h with ⟨b, rfl, q⟩ | ⟨rfl, q⟩ | ⟨i, rfl, hz, q⟩ | ⟨a, d, rfl, hd, hs, q⟩
  · obtain ⟨u, rfl, r1⟩ := vals1 r
    obtain rfl : u = Value.bool b := r1
    exact PySem.P.repr_of_bool ⟨.str _, H, I.tok _, ⟨_, rfl⟩, q⟩
  · obtain ⟨u, rfl, r1⟩ := vals1 r
    obtain rfl : u = Value.none := r1
    exact PySem.P.repr_of_none ⟨.str _, H, I.tok _, ⟨_, rfl⟩, q⟩
  · obtain ⟨u, rfl, t, rfl⟩ := vals1 r
    exact PySem.P.repr_of_int hz ⟨.str _, H, I.tok _, ⟨_, rfl⟩, q⟩
  · obtain ⟨u, rfl, r1⟩ := vals1 r
    obtain rfl : u = Value.ref a := r1
    obtain ⟨as, rd⟩ := Dp.reads I d (.ref a) (.ref a) hd rfl
    obtain ⟨s1, s2⟩ := Bool.and_eq_true_iff.mp (show (d.showable && (!d.hasDict && (SeqAt.shaped d && decide (d.shown.length ≤ sizeLine)))) = true from hs)
    obtain ⟨s3, s4⟩ := Bool.and_eq_true_iff.mp s2
    obtain ⟨s5, s6⟩ := Bool.and_eq_true_iff.mp s4
    have dd : d.depth ≤ 64 := by
      have z := (Bool.and_eq_true_iff.mp (show (PyData.canLay0 d && decide (PyData.depth d ≤ 64)) = true from s5)).2
      exact of_decide_eq_true z
    exact repr_of_reads' rd s1 (PyData.noDict_hsm (by cases q2 : d.hasDict with | true => rw [q2] at s3; cases s3 | false => rfl)) hg (by omega) (fun _ _ e => e) (fun h' u tk k => ⟨.str _, H, I.kept k, ⟨_, rfl⟩, q⟩) (of_decide_eq_true s6)
section
variable {K : Frag}
theorem canLay_show {d : PyData} (h : showB d = true) : d.canLay0 = true := by
  obtain ⟨_, s2⟩ := Bool.and_eq_true_iff.mp (show (d.showable && (!d.hasDict && (SeqAt.shaped d && decide (d.shown.length ≤ sizeLine)))) = true from h)
  exact SeqAt.canLay_of_shaped (Bool.and_eq_true_iff.mp (Bool.and_eq_true_iff.mp s2).2).1
theorem sc_repr : SC K (rRepr K) cRepr := fun as H cs vs ds Qd Q w d h k => by
  match ds, d with
  | [.bool b], .cons (.bl _) .nil => exact .inl ⟨b, rfl, k _ H _ (Same.refl H) (.str _) h⟩
  | [.none], .cons .non .nil => exact .inr (.inl ⟨rfl, k _ H _ (Same.refl H) (.str _) h⟩)
  | [.int i], .cons (.int _) .nil => exact .inr (.inr (.inl ⟨i, rfl, h.1, k _ H _ (Same.refl H) (.str _) h.2⟩))
  | [.tuple xs], .cons (.tup h1 h2) .nil => exact .inr (.inr (.inr ⟨_, .tuple xs, rfl, dp_mono (hid_sub H as) ((Dq.tup h1 h2).dp (canLay_show h.1)), h.1, k _ H _ (Same.refl H) (.str _) h.2⟩))
  | [.list xs], .cons (.lst h1 h2) .nil => exact .inr (.inr (.inr ⟨_, .list xs, rfl, dp_mono (hid_sub H as) ((Dq.lst h1 h2).dp (canLay_show h.1)), h.1, k _ H _ (Same.refl H) (.str _) h.2⟩))
end
/-! ### defs that show something -/
structure FnG (P : Program) (w : World) (K : Frag) (mg : Str → Option Value) (base : Heap) (C : CXT) (k : Nat) (f : Addr) (fd : FuncData) (ps : List Str) (sp : Sp) : Prop where
  len : ∀ vs H Q E, sp vs H Q E → vs.length = ps.length
  run : ∀ (A : Around) (outer : List Env) (s : Shared) (H : Hp) (args : Args) (us : List Value) (vs : List V) (Q : VK) (E : XK), Room k A → A.guards = some [] → Env0 P w K mg base A outer s H → BindsTo s fd args (ps.zip us) → Vals vs us → sp vs H Q E →
    codeAny (model P w) A (.call (.ref f) args) (CR C outer P w H s Q E) s
theorem fg_of {C : CXT} {P : Program} {w : World} {K : Frag} {mg : Str → Option Value} {base : Heap} {k : Nat} {f : Addr} {fd : FuncData} {x qual : Str} {params : Arguments} {body : List Stmt} {scope : Scope} {dvs : List V} {kws : List (Str × V)} {N ps : List Str} {sp : Sp}
    (F : FunD K x qual params body scope dvs kws f fd) (S : FnScope N ps scope) (len : ∀ vs H Q E, sp vs H Q E → vs.length = ps.length)
    (hb : ∀ (cdv : Value) (A : Around) (outer : List Env) (s : Shared) (H : Hp) (vs : List V) (Q : VK) (E : XK), Room k (A.deeper (envOfC qual scope s.heap.objs.size f cdv)) → A.guards = some [] → sp vs H Q E →
      ∃ t, PSs (cxOf C P w K mg base N qual scope f cdv A outer s H E) body t ∧ t { nx := fun _ H' => Q .non H', rt := Q } (L2.start N vs) H) : FnG P w K mg base C (k + 1) f fd ps sp := by
  obtain ⟨z1, z2, z3, z4, z5, z6, z7, cdv, z8, z9, rfl, at_, code, -, -⟩ := F.ex
  refine ⟨len, fun A outer s H args us vs Q E room gd e0 bind rel prom => ?_⟩
  have len' := len _ _ _ _ prom
  have kin : K.In s.heap := e0.mod.kin.keeps fun b o e => (e0.bs b o e).1
  have nolim : s.heap.NoLimit := e0.mod.nolimit.keeps fun b o e => (e0.bs b o e).1
  have kinds : ∀ y ∈ ps.zip us, scope.names.lookup y.1 = some .local ∨ (scope.names.lookup y.1 = some .cell ∧ ((cellsFrom (s.heap.objs.size + 1) scope.names []).lookup y.1).isSome = true) := by
    rintro ⟨n, v⟩ hy
    rcases S.par n (List.of_mem_zip hy).1 with q | q
    · exact .inl q
    · exact .inr ⟨q, PySem.W.cellsFrom_some _ _ _ (.inl q)⟩
  refine codeAny_call_function room.depth (kin _ _ at_) rfl S.co S.gen rfl (PySem.W.codeRec_of kin code) (bind _ _ _ _ ?_)
  refine wpAny_newFunctionEnv_cells S.kind kinds fun env henv s1 made => ?_
  subst henv
  refine ⟨nolim.keeps made.toInCall.keep, codeAny_func ?_⟩
  obtain ⟨t, ht, ht2⟩ := hb cdv A outer s H vs Q E (room.deeper _) gd prom
  have I : Inv (cxOf C P w K mg base N qual scope f cdv A outer s H E) [] (L2.start N vs) H s1 := inv_start S room.hd e0 len' rel made
  refine wpAny_mono (ht.run [] s1 (L2.start N vs) H _ I ht2) (fun fl s' ends => ?_) fun e s' ends => ends
  cases fl with
  | ret u =>
    obtain ⟨v, σ', H', J, rv, q⟩ := ends
    exact ⟨v, H', J.os, J.bare, J.base, J.hok, rv, q⟩
  | next =>
    obtain ⟨σ', H', J, q⟩ := ends
    exact ⟨V.non, H', J.os, J.bare, J.base, J.hok, rfl, q⟩
  | brk =>
    obtain ⟨_, _, _, q⟩ := ends
    exact q.elim
  | cont =>
    obtain ⟨_, _, _, q⟩ := ends
    exact q.elim
structure CalG (P : Program) (w : World) (K : Frag) (mg : Str → Option Value) (base : Heap) (k : Nat) (name : Str) (ps : List Str) (f : FD) : Prop where
  ex : ∃ (a : Addr) (fd : FuncData), mg name = some (.ref a) ∧ PySem.W.keepIn K (.ref a) = true ∧ FnG P w K mg base (L2.CX P w) k a fd ps (spD K f) ∧ Binds K fd ps []
section
variable {X : Cx} {E : XK}
theorem q_callG {k : Nat} {name : Str} {ps : List Str} {f : FD} {e : Expr} {es : List Expr} {p pos : Pos} {da : DA} (F : CalG X.prog X.w X.K X.mg X.base k name ps f) (gd : X.A.guards = some []) (hr : Room k X.A) (hx : Passes (L2.CX X.prog X.w) X E) (ha : QA X E (e :: es) da)
    (hg : Gl X name := by rfl) (hdb : (name == ("__debug__" : Str)) = false := by decide) (he : starEach (e :: es) X.env = (false, eval e X.env) :: starEach es X.env := by rfl) (hpl : (backTo pos (starEach es X.env)).any (·.1) = false := by rfl) :
    QE X E (.Call (.Name name p) (e :: es) [] pos) (dCall f da) := by
  obtain ⟨a, fd, h1, h2, h3, h4⟩ := F.ex
  obtain ⟨ta, a1, a2⟩ := ha.ex
  refine ⟨_, ⟨fun pins s σ H Q I h => ?_⟩, se_call a2⟩
  refine wpAny_Call_Name_kw (ld_glob I hg h1 ?_ hdb)
  refine PySem.W.callWith_K (h₀ := X.base) I.ok.mod.kin h2 (thn (a1.run pos pins s σ H _ I h) fun us s1 ⟨vs, H1, I1, r, q⟩ => ⟨I1.kIn, ?_⟩) he hpl
  have hl : (us ++ []).length = ps.length := by
    rw [List.append_nil, ← r.length]
    have z := h3.len _ _ _ _ q
    rw [List.append_nil] at z
    exact z
  have r2 : Vals (vs ++ []) (us ++ []) := by rw [List.append_nil, List.append_nil]; exact r
  refine wpAny_call (codeAny_mono (h3.run X.A X.stack s1 H1 ⟨us, []⟩ (us ++ []) (vs ++ []) Q E hr gd I1.env0 (h4 s1 us I1.kIn hl) r2 q) fun res s' hq => ?_)
  cases res with
  | error e => exact hx pins σ H1 s1 e s' I1 hq
  | ok fl =>
    cases fl with
    | ret u => exact I1.after hq
    | next => exact False.elim hq
    | brk => exact False.elim hq
    | cont => exact False.elim hq
end
section
variable {P : Program} {w : World} {K : Frag} {mg : Str → Option Value} {base : Heap} {name qual : Str} {st : Stmt} {a : Addr} {fd : FuncData} {N ps : List Str} {k : Nat} {dvs : List V} {kws : List (Str × V)}
theorem fnG_of {f : FD} {ds : DS} (F : FunD K name qual (defArgs st) (defBody st) (defScope st) dvs kws a fd) (S : FnScope N ps (defScope st)) (hlen : ∀ ss cs Ed Q, f ss cs Ed Q → ss.length = ps.length)
    (body : ∀ (cdv : Value) (A : Around) (outer : List Env) (s : Shared) (H : Hp) (E : XK), Room k (A.deeper (envOfC qual (defScope st) s.heap.objs.size a cdv)) → A.guards = some [] → QSs (cxOf (L2.CX P w) P w K mg base N qual (defScope st) a cdv A outer s H E) E (defBody st) ds)
    (hf : ∀ ss cs Ed Qd, f ss cs Ed Qd → ds (DN0 Qd (fun _ _ => False) Ed) (ss ++ List.replicate (N.length - ss.length) .no) cs) : FnG P w K mg base (L2.CX P w) (k + 1) a fd ps (spD K f) := by
  refine fg_of F S (fun vs H Q E h => ?_) (fun cdv A outer s H vs Q E hr gd h => ?_)
  · obtain ⟨as, ss, cs, Ed, Qd, _, h2, _, h4, _⟩ := h
    rw [pr_len h2]
    exact hlen _ _ _ _ h4
  · obtain ⟨as, ss, cs, Ed, Qd, h1, h2, h3, h4, h5⟩ := h
    obtain ⟨t, b1, b2⟩ := (body cdv A outer s H E hr gd).ex
    refine ⟨t, b1, b2 as _ H _ cs _ (DN0 Qd (fun _ _ => False) Ed) h1 (ev_start N h2) h3 (hf _ _ _ _ h4) ⟨fun ex σ' H' ρ' cs' hf e w' ev q => ?_, fun ex σ' H' ρ' cs' hf e w' ev q => q.elim, fun ex σ' H' ρ' cs' hf e w' ev q => q.elim, fun v H' x cs' e w' d q => ?_, fun p H' ds cs' e f' w' q => q.elim⟩⟩
    · exact h5 .non H' .none _ e w'.drop .non q
    · exact h5 v H' x cs' e w' d q
theorem calG_of {f : FD} {ds : DS} (F : FunD K name qual (defArgs st) (defBody st) (defScope st) dvs kws a fd) (S : FnScope N ps (defScope st)) (hb : Binds K fd ps []) (hm : mg name = some (.ref a)) (hlen : ∀ ss cs Ed Q, f ss cs Ed Q → ss.length = ps.length)
    (body : ∀ (cdv : Value) (A : Around) (outer : List Env) (s : Shared) (H : Hp) (E : XK), Room k (A.deeper (envOfC qual (defScope st) s.heap.objs.size a cdv)) → A.guards = some [] → QSs (cxOf (L2.CX P w) P w K mg base N qual (defScope st) a cdv A outer s H E) E (defBody st) ds)
    (hf : ∀ ss cs Ed Qd, f ss cs Ed Qd → ds (DN0 Qd (fun _ _ => False) Ed) (ss ++ List.replicate (N.length - ss.length) .no) cs) : CalG P w K mg base (k + 1) name ps f :=
  ⟨a, fd, hm, F.kp, fnG_of F S hlen body hf, hb⟩
end
end Kp

namespace Kp
open PySem PySem.Spec PyProof.Rows L2
/-- a heap in which the script stands, frozen; nothing else of it is looked at -/
def only1 (a : Addr) (vs : List Value) (ns : List Int) : Hp := fun b => if b = a then some (.frz { cls := .type "list", data := .seq vs.toArray } (.lst (ns.map V.int))) else none
theorem only1_at {a : Addr} {vs : List Value} {ns : List Int} : only1 a vs ns a = some (.frz { cls := .type "list", data := .seq vs.toArray } (.lst (ns.map V.int))) := if_pos rfl
theorem only1_of {a b : Addr} {vs : List Value} {ns : List Int} {u : HO} (h : only1 a vs ns b = some u) : b = a := by
  by_cases q : b = a
  · exact q
  · rw [show only1 a vs ns b = none from if_neg q] at h; cases h
/-- the whole law's call, a promise for where nothing is being shown -/
theorem law_callG {P : Program} {w : World} {K : Frag} {mg mb : Str → Option Value} {k : Nat} {fa a : Addr} {fd : FuncData} {x : Str} {n : Nat} {s : Shared} {vs : List Value} {ns : List Int}
    (KX : K.In s.heap) (hns : s.heap.Ns mainGlobals mg) (hb : s.heap.Ns builtinsNs mb) (hbb : ∀ x : Str, x ≠ "__name__" → mb x = bootBuiltins x) (hlim : s.heap.NoLimit) (hg : s.gens = #[]) (ha : s.heap.get? a = some { cls := .type "list", data := .seq vs.toArray }) (hi : IntsAre vs ns)
    (hn : ns.length ≤ n) (hl : n ≤ sizeLine) (hr : Room k callerA) (F : ∀ base : Heap, FnG P w K mg base (L2.CX P w) k fa fd [x] (spD K (fLaw n))) (bind : ∀ (s : Shared) (u : Value), BindsTo s fd ⟨[u], []⟩ [(x, u)]) :
    codeAny (model P w) callerA (.call (.ref fa) ⟨[.ref a], []⟩) (fun r s' => r = .ok (.ret (.bool true)) ∧ OldK s.heap s'.heap ∧ s'.os = s.os ∧ AllBare s'.gens) s := by
  have same := hi.length
  have go : ∀ H : Hp, SqL K H a (ns.map V.int) → HOk P w H s.heap → (∀ b u, H b = some u → b = a ∧ ∃ o xs, u = .frz o xs) → (H a ≠ none → K.lookup a = none) →
      codeAny (model P w) callerA (.call (.ref fa) ⟨[.ref a], []⟩) (fun r s' => r = .ok (.ret (.bool true)) ∧ OldK s.heap s'.heap ∧ s'.os = s.os ∧ AllBare s'.gens) s := by
    intro H hS ok hA hK
    have dict0 : ∀ {b : Addr} {o : Obj} {es : Array DictEntry} {ep : Nat}, s.heap.get? b = some o → o.data = .dict es ep → H b = none := by
      intro b o es ep e d
      cases q : H b with
      | none => rfl
      | some u =>
        obtain ⟨rfl, -⟩ := hA b u q
        rw [ha] at e
        cases e
        cases (show Data.seq vs.toArray _ = Data.dict es ep from d)
    have names : ∀ {b : Addr} {m : Str → Option Value}, s.heap.Ns b m → (L2.hidT s.heap H).Ns b m := fun {b m} ⟨o, es, ep, e, d, r⟩ => ⟨o, es, ep, hidT_get e (dict0 e d), d, r⟩
    have kin : K.In (L2.hidT s.heap H) := fun b o e => hidT_get (KX b o e) (by
      cases q : H b with
      | none => rfl
      | some u =>
        obtain ⟨rfl, -⟩ := hA b u q
        rw [hK (by rw [q]; simp)] at e
        cases e)
    have md : L2.Mod K mg (L2.hidT s.heap H) := ⟨kin, names hns, ⟨mb, names hb, hbb⟩, let ⟨mc, h1, h2⟩ := hlim; ⟨mc, names h1, h2⟩⟩
    have e0 : Env0 P w K mg (L2.hidT s.heap H) callerA [] s H := ⟨rfl, md, fun b o e => of_hidT e, Nat.le_of_eq (hidT_size _ _), trivial, fun b hb => (List.not_mem_nil hb).elim, ok, .of_eq hg⟩
    refine codeAny_mono ((F _).run callerA [] s H ⟨[.ref a], []⟩ [.ref a] [.ref a] _ _ hr rfl e0 (bind s (.ref a)) (.cons rfl .nil) (sp_law hn hS)) fun r s' h => ?_
    cases r with
    | error e =>
      obtain ⟨_, _, _, _, _, _, _, _, _, _, _, _, bad⟩ := (show L2.CX P w [] H s (fun _ _ _ => False) e s' from h)
      exact bad.elim
    | ok fl =>
      cases fl with
      | next => exact False.elim h
      | brk => exact False.elim h
      | cont => exact False.elim h
      | ret u =>
        obtain ⟨v, H', os, bare, un, ok', rv, q⟩ := h
        obtain rfl : v = .bl true := q
        obtain rfl : u = Value.bool true := rv
        refine ⟨rfl, OldK.of_keep fun b o e => ?_, os, bare⟩
        cases q : H b with
        | none => exact un.keep b o e q (fun z => (List.not_mem_nil z).elim) (by simp)
        | some u =>
          obtain ⟨rfl, ob, xs, rfl⟩ := hA b u q
          obtain ⟨e1, _⟩ := ok b _ q
          obtain ⟨e2, _⟩ := ok' b _ (un.frzs b ob _ q)
          rw [e] at e1
          cases e1
          exact e2
  cases hk : K.lookup a with
  | some o =>
    have e := KX a o hk
    rw [ha] at e
    cases e
    exact go (fun _ => none) (.inr ⟨_, vs.toArray, _, hk, rfl, rfl, rfl, by rw [List.size_toArray, same]; omega, by simpa using vals_ints hi⟩) (fun b u z => nomatch (show (none : Option HO) = some u from z)) (fun b u z => nomatch (show (none : Option HO) = some u from z)) fun z => absurd rfl z
  | none =>
    refine go (only1 a vs ns) (.inl (.inr ⟨_, only1_at⟩)) (fun b u z => ?_) (fun b u z => ?_) fun _ => hk
    · obtain rfl := only1_of z
      rw [only1_at] at z
      cases z
      exact ⟨ha, by rw [List.length_map]; omega, vs, _, vals_ints hi, ha⟩
    · obtain rfl := only1_of z
      rw [only1_at] at z
      cases z
      exact ⟨rfl, _, _, rfl⟩
theorem walk_g {l : PySem.W.OpenLaw} {n k : Nat} {q : Program} {loose : List Str} {XP : (Str → Option Value) → Heap → Prop} {YP : World → Heap → Prop} {d : DefRec} {x : Str} (hn : l.most = some n) (hn2 : n ≤ sizeLine) (hdf : d.params.defaults = []) (hr : Room k callerA)
    (F : ∀ (w : World) (mg : Str → Option Value) (fa : Addr) (h : Heap), YP w h → h.Ns mainGlobals mg → mg d.name = some (.ref fa) → ∃ (K : Frag) (fd : FuncData), K.In h ∧ (∀ (s : Shared) (u : Value), BindsTo s fd ⟨[u], []⟩ [(x, u)]) ∧
        ∀ base : Heap, FnG l.prog w K mg base (L2.CX l.prog w) k fa fd [x] (spD K (fLaw n))) :
    PySem.W.WalkO q loose XP YP l.row.toRowW d [] (fun f vs => PySem.call f vs) := by
  refine Att.attach_call hn hdf fun wd sA sB m1 m2 af ob pa co dc la us js Z1 Z2 z1 z2 z3 z4 z5 z6 z7 z8 => ?_
  obtain ⟨K, fd, q1, q2, q3⟩ := F wd m1 af _ Z2 Z1.T.g z4
  exact law_callG q1 Z1.T.g Z1.T.b Z1.T.builtins Z1.T.nolimit z8 z5 z6 z7 hn2 hr q3 q2
end Kp

namespace Kp
open PySem PySem.Spec PyProof.Rows L2
section
variable {X : Cx} {E : XK}
/-! ### list(e): a new list of one's own -/
def dNlV (i : Nat) : DL := fun ρ cs _ Q => ∃ ds, itemsOf cs ρ[i]? = some ds ∧ Q ds cs
theorem q_nlistV {a : Expr} {p pos : Pos} (i : Nat) (ha : PE X a (tVar i)) (hm : X.mg "list" = none) (hg : Gl X "list" := by rfl)
    (he : starEach [a] X.env = (false, eval a X.env) :: starEach [] X.env := by rfl) (hpl : (backTo pos (starEach [] X.env)).any (·.1) = false := by rfl) : QN X E (.Call (.Name "list" p) [a] [] pos) (dNlV i) := by
  refine ⟨_, pe_callTy call_list_of hg hm boot_list' (pa_cons ha pa_nil he) (he := he) (hpl := hpl), fun as σ H ρ cs Ed Qd Q w e ek h k => ?_⟩
  obtain ⟨ds, h1, h2⟩ := h
  obtain ⟨a, xs, h3, h4, h5⟩ := slot_items w e h1
  exact ⟨_, h3, a, xs, rfl, h4.imp_right hidT, fun q hq => k q _ ds cs (Ext.of (Same.new hq)) hq (w.newc hq (h5.mono (new_cons hq))) h2⟩
def dNl (da : DE) : DL := fun ρ cs Ed Q => da ρ cs Ed fun x cs1 => match x with
  | .tuple ds => Q ds cs1
  | .list ds => Q ds cs1
  | _ => False
theorem q_nlist {a : Expr} {p pos : Pos} {da : DE} (ha : QE X E a da) (hm : X.mg "list" = none) (hg : Gl X "list" := by rfl)
    (he : starEach [a] X.env = (false, eval a X.env) :: starEach [] X.env := by rfl) (hpl : (backTo pos (starEach [] X.env)).any (·.1) = false := by rfl) : QN X E (.Call (.Name "list" p) [a] [] pos) (dNl da) := by
  obtain ⟨ta, a1, a2⟩ := ha.ex
  refine ⟨_, pe_callTy call_list_of hg hm boot_list' (pa_cons a1 pa_nil he) (he := he) (hpl := hpl), fun as σ H ρ cs Ed Qd Q w e ek h k => a2 as σ H ρ cs Ed _ _ w e ek h fun v H1 x cs1 e1 w1 d1 h1 => ?_⟩
  cases d1 with
  | lst g1 g2 => exact ⟨_, _, rfl, .inl (SqL.of (hid1 g1)), fun q hq => k q _ _ cs1 (e1.trans (Ext.of (Same.new hq))) (fresh_of w1 e1 hq) (w1.newc hq (g2.mono (new_cons hq))) h1⟩
  | tup g1 g2 => exact ⟨_, _, rfl, .inr (hidT g1), fun q hq => k q _ _ cs1 (e1.trans (Ext.of (Same.new hq))) (fresh_of w1 e1 hq) (w1.newc hq (g2.mono (new_cons hq))) h1⟩
  | _ => exact h1.elim
end
/-! ### small numbers are shown -/
theorem log_small {i : Int} (h : i.natAbs < 10 ^ 12) : i.natAbs.log2 < 1920 := by
  by_cases z : i.natAbs = 0
  · rw [z]; decide
  · rw [Nat.log2_lt z]
    exact Nat.lt_of_lt_of_le h (by decide +kernel)
inductive Sml : List PyData → Prop
  | nil : Sml []
  | cons {i : Int} {ds : List PyData} : i.natAbs < 10 ^ 12 → Sml ds → Sml (.int i :: ds)
theorem Sml.facts : ∀ {ds : List PyData}, Sml ds → PyData.showableAll ds = true ∧ PyData.hasDictAll ds = false ∧ PyData.canLayAll0 ds = true ∧ PyData.depthAll ds ≤ 1 ∧ PyData.intsShortAll 13 ds = true
  | _, .nil => ⟨rfl, rfl, rfl, by decide, rfl⟩
  | _, .cons (i := i) (ds := ds) h t => by
    obtain ⟨h1, h2, h3, h4, h5⟩ := Sml.facts t
    refine ⟨?_, ?_, ?_, ?_, ?_⟩
    · show (decide (i.natAbs.log2 < 1920) && PyData.showableAll ds) = true
      rw [decide_eq_true (log_small h), h1]; rfl
    · show (false || PyData.hasDictAll ds) = false
      rw [h2]; rfl
    · show (PyData.canLay0 (.int i) && PyData.canLayAll0 ds) = true
      rw [h3]; rfl
    · show max (PyData.depth (.int i)) (PyData.depthAll ds) ≤ 1
      exact Nat.max_le.mpr ⟨by show 0 ≤ 1; decide, h4⟩
    · show (PyData.intsShort 13 (.int i) && PyData.intsShortAll 13 ds) = true
      rw [h5, show PyData.intsShort 13 (.int i) = true from decide_eq_true (PyData.shown_int_le h)]; rfl
theorem Sml.weight : ∀ {ds : List PyData}, Sml ds → PyData.weightAll ds ≤ 41 * ds.length
  | _, .nil => Nat.zero_le _
  | _, .cons (i := i) (ds := ds) h t => by
    have z := Sml.weight t
    have e : (if i == 0 then 0 else i.natAbs.log2 + 1) ≤ 40 := by
      split
      · exact Nat.zero_le _
      · rename_i c
        have nz : i.natAbs ≠ 0 := fun q => c (by simp; omega)
        have : i.natAbs.log2 < 40 := (Nat.log2_lt nz).mpr (Nat.lt_of_lt_of_le h (by decide))
        omega
    have e2 : PyData.weight (.int i) = (if i == 0 then 0 else i.natAbs.log2 + 1) := by simp only [PyData.weight]
    simp only [PyData.weightAll, List.length_cons]
    rw [e2]
    omega
theorem Sml.show {ds : List PyData} (h : Sml ds) (hl : ds.length ≤ 20000) : showB (.tuple ds) = true ∧ showB (.list ds) = true := by
  obtain ⟨h1, h2, h3, h4, h5⟩ := h.facts
  have h6 := h.weight
  have w1 : PyData.weightAll ds ≤ 2 ^ 20 := by
    have : (2 : Nat) ^ 20 = 1048576 := by decide
    omega
  have go : ∀ d : PyData, d.canLay0 = PyData.canLayAll0 ds → d.depth = PyData.depthAll ds + 1 → d.weight = PyData.weightAll ds → d.showable = PyData.showableAll ds → d.hasDict = PyData.hasDictAll ds → d.intsShort 13 = PyData.intsShortAll 13 ds → showB d = true := fun d e1 e2 e3 e4 e5 e6 => by
    have lay : PyData.layable0 d = true := by
      show (d.canLay0 && decide (d.depth ≤ 64) && decide (d.weight ≤ 2 ^ 20)) = true
      rw [e1, h3, e2, e3, decide_eq_true (show PyData.depthAll ds + 1 ≤ 64 by omega), decide_eq_true w1]; rfl
    have len := shown_le13 lay (by rw [e6]; exact h5)
    have sz : d.shown.length ≤ sizeLine := Nat.le_trans len (by decide)
    show (d.showable && (!d.hasDict && ((d.canLay0 && decide (d.depth ≤ 64)) && decide (d.shown.length ≤ sizeLine)))) = true
    rw [e4, h1, e5, h2, e1, h3, e2, decide_eq_true (show PyData.depthAll ds + 1 ≤ 64 by omega), decide_eq_true sz]; rfl
  refine ⟨go _ ?_ ?_ ?_ ?_ ?_ ?_, go _ ?_ ?_ ?_ ?_ ?_ ?_⟩ <;> first | rfl | simp only [PyData.canLay0, PyData.depth, PyData.weight, PyData.showable, PyData.hasDict, PyData.intsShort]
/-! ### texts, alike or not -/
def dEqT : R2D := fun x y Q => match x, y with
  | .str a, .str b => Q (.bool (a == b))
  | _, _ => False
def dNeT : R2D := fun x y Q => match x, y with
  | .str a, .str b => Q (.bool (!(a == b)))
  | _, _ => False
theorem sr_eqT {K : Frag} : SR K rEq dEqT := fun as H cs v u x y Qd Q w hx hy h k => by
  cases hx with
  | str a =>
    cases hy with
    | str b => exact ⟨rfl, by rw [dec_str]; exact k _ H _ (Same.refl H) (.bl _) h⟩
    | _ => exact h.elim
  | _ => exact h.elim
theorem sr_neT {K : Frag} : SR K rNe dNeT := fun as H cs v u x y Qd Q w hx hy h k => by
  cases hx with
  | str a =>
    cases hy with
    | str b => exact ⟨rfl, by rw [dec_str]; exact k _ H _ (Same.refl H) (.bl _) h⟩
    | _ => exact h.elim
  | _ => exact h.elim
theorem eqT (a : Str) : (a == a) = true := by simp
theorem room100 {k : Nat} {A : Around} (r : Room k A) : A.units + 100 < cLine := by have := r.un; omega
/-- .. behind k new cells -/
theorem d_midk (k : Nat) {d1 rest : DS} {Dd : DN} {ρ : List Sl} {cs : CS} (Mid : List Sl → CS → Prop) (hB : ∀ Dd' : DN, Dd'.m = Dd.m → Dd'.rt = Dd.rt → (∀ ρ' cs', Mid ρ' cs' → Dd'.nx k ρ' cs') → d1 Dd' ρ cs) (hA : ∀ ρ' cs', Mid ρ' cs' → rest (Dd.push k) ρ' cs') : dSeq d1 rest Dd ρ cs := hB _ rfl rfl hA
section
variable {X : Cx} {E : XK}
/-! ### name = [..] on one line -/
theorem q_setLc {elt tg iter : Expr} {scope : Scope} {pos py spos : Pos} {di : DI} {de : DE} {x y : Str} (i j : Nat) (hc : X.calm = true) (hN : X.N.Nodup) (hi : QI X E tg iter di) (ok : BlkOk X.N X.env.scope scope [(x, j)])
    (hg : ∀ (s : Shared) (H : Hp) (C : Addr) (cl : List (Str × Addr)) (fp : List Addr), PG (X.blk s H scope (compEnvC scope cl C X.env) fp) tg (gName j))
    (he : ∀ (s : Shared) (H : Hp) (C : Addr) (cl : List (Str × Addr)) (fp : List Addr), QE (X.blk s H scope (compEnvC scope cl C X.env) fp) E0 elt de)
    (hy : X.N[i]? = some y := by rfl) (hyl : X.env.scope.names.lookup y = some .local := by rfl) (hsw : swapsWith (.ListComp elt [⟨tg, iter, [], 0⟩] scope pos) (some (.Name y py)) spos.line X.env = pure true := by exact sw_true rfl rfl rfl (by decide +kernel))
    (hs : ∀ x, foldedSetIterable iter X.env x = pure x := by intro _; rfl) : QS X E (.Assign [.Name y py] (.ListComp elt [⟨tg, iter, [], 0⟩] scope pos) spos) (dSet i (dOfN (dLc di j dYes de))) := by
  obtain ⟨wi, i1, i2⟩ := hi.ex
  refine ⟨_, ps_setLc (own := [(x, j)]) (g := gName j) (tt := tYes) (te := tOfE X.K E0 de) hc hN hy hyl hsw i1 ok hg (fun _ _ _ _ _ => pts_nil) (fun s H C cl fp => (he s H C cl fp).can) hs, fun as σ H ρ cs D Dd w ev ek h S => (lc_core' i2 st_yes' se_can) as σ H ρ cs Dd.ex _ _ w ev ek h fun p H1 ds cs1 e1 hp w1 h1 => ?_⟩
  obtain ⟨acc, cs2, xs, g0, g1, g2⟩ := w1.head
  cases g0
  exact S.nx [] _ H1 _ _ (fun _ q => nomatch q) e1 (Wk.drop (ex := [p]) w1) (ev_set (s := .d (.list _)) (ev.ext e1) i ⟨_, rfl, .lst (by rw [hid_out (w.fresh hp)]; exact g1) (g2.mono hid_cons)⟩) h1
theorem q_setLcif {elt tg iter c : Expr} {scope : Scope} {pos py spos : Pos} {di : DI} {dt : DT} {de : DE} {x y : Str} (i j : Nat) (hc : X.calm = true) (hN : X.N.Nodup) (hi : QI X E tg iter di) (ok : BlkOk X.N X.env.scope scope [(x, j)])
    (hg : ∀ (s : Shared) (H : Hp) (C : Addr) (cl : List (Str × Addr)) (fp : List Addr), PG (X.blk s H scope (compEnvC scope cl C X.env) fp) tg (gName j))
    (ht : ∀ (s : Shared) (H : Hp) (C : Addr) (cl : List (Str × Addr)) (fp : List Addr), QT (X.blk s H scope (compEnvC scope cl C X.env) fp) E0 c dt)
    (he : ∀ (s : Shared) (H : Hp) (C : Addr) (cl : List (Str × Addr)) (fp : List Addr), QE (X.blk s H scope (compEnvC scope cl C X.env) fp) E0 elt de)
    (hy : X.N[i]? = some y := by rfl) (hyl : X.env.scope.names.lookup y = some .local := by rfl) (hsw : swapsWith (.ListComp elt [⟨tg, iter, [c], 0⟩] scope pos) (some (.Name y py)) spos.line X.env = pure true := by exact sw_true rfl rfl rfl (by decide +kernel))
    (hs : ∀ x, foldedSetIterable iter X.env x = pure x := by intro _; rfl) : QS X E (.Assign [.Name y py] (.ListComp elt [⟨tg, iter, [c], 0⟩] scope pos) spos) (dSet i (dOfN (dLc di j dt de))) := by
  obtain ⟨wi, i1, i2⟩ := hi.ex
  refine ⟨_, ps_setLc (own := [(x, j)]) (g := gName j) (tt := tOfT X.K E0 dt) (te := tOfE X.K E0 de) hc hN hy hyl hsw i1 ok hg (fun s H C cl fp => pts_one (ht s H C cl fp).can) (fun s H C cl fp => (he s H C cl fp).can) hs, fun as σ H ρ cs D Dd w ev ek h S => (lc_core' i2 st_can se_can) as σ H ρ cs Dd.ex _ _ w ev ek h fun p H1 ds cs1 e1 hp w1 h1 => ?_⟩
  obtain ⟨acc, cs2, xs, g0, g1, g2⟩ := w1.head
  cases g0
  exact S.nx [] _ H1 _ _ (fun _ q => nomatch q) e1 (Wk.drop (ex := [p]) w1) (ev_set (s := .d (.list _)) (ev.ext e1) i ⟨_, rfl, .lst (by rw [hid_out (w.fresh hp)]; exact g1) (g2.mono hid_cons)⟩) h1
theorem q_newLc {elt tg iter : Expr} {scope : Scope} {pos py spos : Pos} {di : DI} {de : DE} {x y : Str} (i j : Nat) (hc : X.calm = true) (hN : X.N.Nodup) (hi : QI X E tg iter di) (ok : BlkOk X.N X.env.scope scope [(x, j)])
    (hg : ∀ (s : Shared) (H : Hp) (C : Addr) (cl : List (Str × Addr)) (fp : List Addr), PG (X.blk s H scope (compEnvC scope cl C X.env) fp) tg (gName j))
    (he : ∀ (s : Shared) (H : Hp) (C : Addr) (cl : List (Str × Addr)) (fp : List Addr), QE (X.blk s H scope (compEnvC scope cl C X.env) fp) E0 elt de)
    (hy : X.N[i]? = some y := by rfl) (hyl : X.env.scope.names.lookup y = some .local := by rfl) (hsw : swapsWith (.ListComp elt [⟨tg, iter, [], 0⟩] scope pos) (some (.Name y py)) spos.line X.env = pure true := by exact sw_true rfl rfl rfl (by decide +kernel))
    (hs : ∀ x, foldedSetIterable iter X.env x = pure x := by intro _; rfl) : QS X E (.Assign [.Name y py] (.ListComp elt [⟨tg, iter, [], 0⟩] scope pos) spos) (dNew i (dLc di j dYes de)) := by
  obtain ⟨wi, i1, i2⟩ := hi.ex
  refine ⟨_, ps_setLc (own := [(x, j)]) (g := gName j) (tt := tYes) (te := tOfE X.K E0 de) hc hN hy hyl hsw i1 ok hg (fun _ _ _ _ _ => pts_nil) (fun s H C cl fp => (he s H C cl fp).can) hs, fun as σ H ρ cs D Dd w ev ek h S => (lc_core' i2 st_yes' se_can) as σ H ρ cs Dd.ex _ _ w ev ek h fun p H1 ds cs1 e1 hp w1 h1 => ?_⟩
  have hf1 : ∀ q ∈ [p], H q = none := fun q hq => by rw [List.mem_singleton.mp hq]; exact hp
  exact S.nx [p] _ H1 _ (ds :: cs1) hf1 e1 w1 (ev_set (s := .c 0) (Ev.sh hf1 ev e1) i ⟨p, rfl, rfl⟩) h1
theorem q_newLcif {elt tg iter c : Expr} {scope : Scope} {pos py spos : Pos} {di : DI} {dt : DT} {de : DE} {x y : Str} (i j : Nat) (hc : X.calm = true) (hN : X.N.Nodup) (hi : QI X E tg iter di) (ok : BlkOk X.N X.env.scope scope [(x, j)])
    (hg : ∀ (s : Shared) (H : Hp) (C : Addr) (cl : List (Str × Addr)) (fp : List Addr), PG (X.blk s H scope (compEnvC scope cl C X.env) fp) tg (gName j))
    (ht : ∀ (s : Shared) (H : Hp) (C : Addr) (cl : List (Str × Addr)) (fp : List Addr), QT (X.blk s H scope (compEnvC scope cl C X.env) fp) E0 c dt)
    (he : ∀ (s : Shared) (H : Hp) (C : Addr) (cl : List (Str × Addr)) (fp : List Addr), QE (X.blk s H scope (compEnvC scope cl C X.env) fp) E0 elt de)
    (hy : X.N[i]? = some y := by rfl) (hyl : X.env.scope.names.lookup y = some .local := by rfl) (hsw : swapsWith (.ListComp elt [⟨tg, iter, [c], 0⟩] scope pos) (some (.Name y py)) spos.line X.env = pure true := by exact sw_true rfl rfl rfl (by decide +kernel))
    (hs : ∀ x, foldedSetIterable iter X.env x = pure x := by intro _; rfl) : QS X E (.Assign [.Name y py] (.ListComp elt [⟨tg, iter, [c], 0⟩] scope pos) spos) (dNew i (dLc di j dt de)) := by
  obtain ⟨wi, i1, i2⟩ := hi.ex
  refine ⟨_, ps_setLc (own := [(x, j)]) (g := gName j) (tt := tOfT X.K E0 dt) (te := tOfE X.K E0 de) hc hN hy hyl hsw i1 ok hg (fun s H C cl fp => pts_one (ht s H C cl fp).can) (fun s H C cl fp => (he s H C cl fp).can) hs, fun as σ H ρ cs D Dd w ev ek h S => (lc_core' i2 st_can se_can) as σ H ρ cs Dd.ex _ _ w ev ek h fun p H1 ds cs1 e1 hp w1 h1 => ?_⟩
  have hf1 : ∀ q ∈ [p], H q = none := fun q hq => by rw [List.mem_singleton.mp hq]; exact hp
  exact S.nx [p] _ H1 _ (ds :: cs1) hf1 e1 w1 (ev_set (s := .c 0) (Ev.sh hf1 ev e1) i ⟨p, rfl, rfl⟩) h1
end
end Kp

namespace Kp
open PySem PySem.Spec PyProof.Rows L2
section
variable {X : Cx} {E : XK} {K : Frag}
/-! ### isqrt, by its own name -/
def rIsq : List V → Hp → VK → Prop := fun xs H Q => ∃ i : Int, xs = [.int i] ∧ 0 ≤ i ∧ i < 2 ^ 64 ∧ Q (.int ((Float64.isqrt i.toNat : Nat) : Int)) H
theorem call_isq : CallR X (.builtin "math.isqrt") rIsq := by
  intro pins s σ H xs us Q I r h
  obtain ⟨i, rfl, h0, h1, q⟩ := h
  obtain ⟨u, rfl, t, rfl⟩ := vals1 r
  exact PySem.W.mg_isqrt h0 h1 ⟨.int _, H, I.tok _, ⟨_, rfl⟩, q⟩
def cIsq : RC := fun ds Q => match ds with
  | [.int i] => 0 ≤ i ∧ i < 2 ^ 64 ∧ Q (.int ((Float64.isqrt i.toNat : Nat) : Int))
  | _ => False
theorem sc_isq : SC K rIsq cIsq := fun as H cs vs ds Qd Q w d h k => by
  match ds, d with
  | [.int i], .cons (.int _) .nil => exact ⟨i, rfl, h.1, h.2.1, k _ H _ (Same.refl H) (.int _) h.2.2⟩
theorem q_isq {e : Expr} {p pos : Pos} {da : DA} (hm : X.mg "isqrt" = some (.builtin "math.isqrt")) (ha : QA X E [e] da) (hg : Gl X "isqrt" := by rfl) (hdb : (("isqrt" : Str) == ("__debug__" : Str)) = false := by decide)
    (he : starEach [e] X.env = (false, eval e X.env) :: starEach [] X.env := by rfl) (hpl : (backTo pos (starEach [] X.env)).any (·.1) = false := by rfl) : QE X E (.Call (.Name "isqrt" p) [e] [] pos) (dCB cIsq da) := by
  obtain ⟨ta, a1, a2⟩ := ha.ex
  refine ⟨_, ⟨fun pins s σ H Q I h => ?_⟩, se_cb sc_isq a2⟩
  refine wpAny_Call_Name_kw (ld_glob I hg hm ?_ hdb)
  exact PyProof.Rows.callWith_builtin1 (thn (a1.run pos pins s σ H _ I h) fun us s1 ⟨vs, H1, I1, r1, q1⟩ => call_isq pins s1 σ H1 vs us Q I1 r1 q1) he hpl
/-! ### a def with one keyword-only truth that has a default -/
structure CalK (P : Program) (w : World) (K : Frag) (mg : Str → Option Value) (base : Heap) (k : Nat) (name : Str) (ps : List Str) (n : Nat) (kw : Str) (b : Bool) (f : FD) : Prop where
  ex : ∃ (a : Addr) (fd : FuncData) (ds : List Value), mg name = some (.ref a) ∧ PySem.W.keepIn K (.ref a) = true ∧ FnOk P w K mg base (L2.CX P w) k a fd ps (spD K f) ∧ Vals [V.bl b] ds ∧ Binds K fd ps ds ∧ KBn K fd ps n [kw] (fun us ws => us ++ ws) (fun vs zs => vs ++ zs)
def dCallD (f : FD) (b : Bool) (da : DA) : DE := fun ρ cs Ed Q => da ρ cs Ed fun ss cs1 => f (ss ++ [.d (.bool b)]) cs1 Ed Q
theorem ar_bl {H : Hp} {as : List Addr} (b : Bool) : Ar K H as [V.bl b] [.d (.bool b)] := .cons ⟨⟨_, rfl, .bl b⟩, fun z => by cases z⟩ .nil
theorem ar_app {H : Hp} {as : List Addr} : ∀ {vs ws : List V} {ss zs : List Sl}, Ar K H as vs ss → Ar K H as ws zs → Ar K H as (vs ++ ws) (ss ++ zs)
  | _, _, _, _, .nil, h => h
  | _, _, _, _, .cons r t, h => .cons r (ar_app t h)
theorem q_callD {k n : Nat} {name kw : Str} {ps : List Str} {b : Bool} {f : FD} {e : Expr} {es : List Expr} {p pos : Pos} {da : DA} (F : CalK X.prog X.w X.K X.mg X.base k name ps n kw b f) (hr : Room k X.A) (hx : Passes (L2.CX X.prog X.w) X E) (ha : QA X E (e :: es) da)
    (hg : Gl X name := by rfl) (hdb : (name == ("__debug__" : Str)) = false := by decide) (he : starEach (e :: es) X.env = (false, eval e X.env) :: starEach es X.env := by rfl) (hpl : (backTo pos (starEach es X.env)).any (·.1) = false := by rfl) :
    QE X E (.Call (.Name name p) (e :: es) [] pos) (dCallD f b da) := by
  obtain ⟨a, fd, ds, h1, h2, h3, h4, h5, h6⟩ := F.ex
  obtain ⟨ta, a1, a2⟩ := ha.ex
  refine ⟨_, pe_call h3 hr hg h1 h2 h5 h4 hx a1 hdb he hpl, fun as σ H ρ cs Ed Qd Q w e ek h k => a2 as σ H ρ cs Ed _ _ w e ek h fun vs H1 ss cs1 e1 w1 d1 q1 => ?_⟩
  exact ⟨as, ss ++ [.d (.bool b)], cs1, Ed, Qd, w1, ar_app d1 (ar_bl b), ek.ext e1, q1, fun v H' x cs' e2 w2 d2 q2 => k v H' x cs' (e1.trans e2) w2 d2 q2⟩
end
section
variable {P : Program} {w : World} {K : Frag} {mg : Str → Option Value} {base : Heap} {name qual kw : Str} {params : Arguments} {body : List Stmt} {scope : Scope} {a : Addr} {fd : FuncData} {ps : List Str} {b : Bool}
/-- positional ones all written, the keyword too -/
theorem kb_all (F : FunD K name qual params body scope [] [(kw, .bl b)] a fd) (n : Nat)
    (h : ∀ (kV doc pm : Value) (an : Option Addr) (cdv ct : Value) (us ws : List Value), us.length = n → ws.length = 1 → bindArgs (PySem.W.fnOf name qual params body scope .none kV doc pm an cdv ct) ⟨us, [kw].zip ws⟩ = pure (ps.zip (us ++ ws))) : KBn K fd ps n [kw] (fun us ws => us ++ ws) (fun vs zs => vs ++ zs) := by
  obtain ⟨oc, od, dV, kV, doc, pm, an, cdv, ct, osl, rfl, lk, hcd, hD, hK⟩ := F.ex
  rcases hD with ⟨_, rfl⟩ | ⟨e, _⟩
  · exact ⟨fun s us ws _ l1 l2 => .of_eq (h kV doc pm an cdv ct us ws l1 l2), fun r1 r2 => r1.append r2⟩
  · exact absurd rfl e
end
end Kp

namespace Kp
open PySem PySem.Spec PyProof.Rows L2
/-! ### a head whose names may be built-ins of a module -/
def bltB (K : Frag) (b : Str × String) : Bool := He.eqO (PySem.W.nsIn K mainGlobals b.1) (some (some (.builtin b.2)))
theorem bltB_ok {K : Frag} {h : Heap} {mg : Str → Option Value} (X : K.In h) (G : h.Ns mainGlobals mg) {x : Str} {id : String} (c : bltB K (x, id) = true) : mg x = some (.builtin id) := PySem.W.mg_of X G (He.eqO_ok c)
abbrev AlB : Type := He.AlD × Bool
def obsB (fa : List He.Fa) (fn : List He.DefD) (bs : List (Str × String)) (K : Frag) : AlB := (He.obsD fa fn K, bs.all (bltB K))
def obsBG (n : Nat) (fa : List He.Fa) (fn : List He.DefD) (bs : List (Str × String)) (g : Addr → Option Obj) : AlB := obsB fa fn bs (He.frG g (He.asD g n))
def saysB (fa : List He.Fa) (fn : List He.DefD) (bs : List (Str × String)) (K : Frag) : Prop := He.SaysD fa fn K ∧ bs.all (bltB K) = true
def hookB (n : Nat) (fa : List He.Fa) (fn : List He.DefD) (bs : List (Str × String)) : PySem.W.Hook where
  α := AlB
  obs := fun s => obsBG n fa fn bs s.heap.get?
  val := fun _ => (He.valD fn, true)
  says := fun _ h => ∃ K : Frag, K.In h ∧ saysB fa fn bs K
  of := fun _ _ e => ⟨_, He.frG_in, congrArg (fun z : AlB => z.1) e, congrArg (fun z : AlB => z.2) e⟩
  keeps := fun _ _ _ ⟨K, hK, c⟩ k => ⟨K, PySem.W.Frag.In.keeps hK k, c⟩
theorem obsBG_eq {n : Nat} {fa : List He.Fa} {fn : List He.DefD} {bs : List (Str × String)} {g : Addr → Option Obj} {s : Shared} (h : ∀ a, g a = s.heap.get? a) : obsBG n fa fn bs g = (hookB n fa fn bs).obs s := by
  have e : g = s.heap.get? := funext h
  rw [e] <;> rfl
theorem saysB_at {fa : List He.Fa} {fn : List He.DefD} {bs : List (Str × String)} {K : Frag} (c : saysB fa fn bs K) (i : Nat) {b : Str × String} (h : bs[i]? = some b := by rfl) : bltB K b = true := List.all_eq_true.mp c.2 b (List.mem_of_getElem? h)
section
variable {P : Program} {w : World} {K : Frag} {mg : Str → Option Value} {base : Heap} {name qual kw : Str} {params : Arguments} {body : List Stmt} {scope : Scope} {a : Addr} {fd : FuncData} {ps : List Str} {b : Bool} {k n : Nat} {f : FD}
theorem calK_of (F : FunD K name qual params body scope [] [(kw, .bl b)] a fd) (hm : mg name = some (.ref a)) (hf : FnOk P w K mg base (L2.CX P w) k a fd ps (spD K f)) (h0 : ∃ ds, Vals [V.bl b] ds ∧ Binds K fd ps ds) (hk : KBn K fd ps n [kw] (fun us ws => us ++ ws) (fun vs zs => vs ++ zs)) : CalK P w K mg base k name ps n kw b f := by
  obtain ⟨ds, h1, h2⟩ := h0
  exact ⟨a, fd, ds, hm, F.kp, hf, h1, h2, hk⟩
end
/-! ### the root, where it is small -/
theorem isq_small : ∀ n, n < 9802 → Float64.isqrt n * Float64.isqrt n ≤ n ∧ n < (Float64.isqrt n + 1) * (Float64.isqrt n + 1) := by
  have h : (List.range 9802).all (fun n => decide (Float64.isqrt n * Float64.isqrt n ≤ n) && decide (n < (Float64.isqrt n + 1) * (Float64.isqrt n + 1))) = true := by decide +kernel
  intro n hn
  have z := List.all_eq_true.mp h n (List.mem_range.mpr hn)
  obtain ⟨z1, z2⟩ := Bool.and_eq_true_iff.mp z
  exact ⟨of_decide_eq_true z1, of_decide_eq_true z2⟩
end Kp

namespace Kp
open PySem PySem.Spec PyProof.Rows L2
section
variable {X : Cx} {E : XK} {K : Frag}
/-- f(e, .., k = x), x a name of data -/
def dCallK (n : Nat) (f : FD) (i : Nat) (da : DA) : DE := fun ρ cs Ed Q => da ρ cs Ed fun ss cs1 => match ρ[i]? with
  | some (.d x) => ss.length = n ∧ f (ss ++ [.d x]) cs1 Ed Q
  | _ => False
theorem q_callK {k n : Nat} {name kw : Str} {ps : List Str} {b : Bool} {f : FD} {e v : Expr} {es : List Expr} {p pos kpos : Pos} {da : DA} (i : Nat) (hv : PE X v (tVar i)) (F : CalK X.prog X.w X.K X.mg X.base k name ps n kw b f) (hr : Room k X.A) (hx : Passes (L2.CX X.prog X.w) X E) (ha : QA X E (e :: es) da)
    (hg : Gl X name := by rfl) (hdb : (name == ("__debug__" : Str)) = false := by decide) (he : starEach (e :: es) X.env = (false, eval e X.env) :: starEach es X.env := by rfl)
    (hall : (backToKw pos (keywordEach [⟨some kw, v, kpos⟩] X.env)).all (·.1.isSome) = true := by rfl) (hks : (backToKw pos (keywordEach [⟨some kw, v, kpos⟩] X.env)).filterMap (·.1) = [kw] := by rfl)
    (hpl : ((backTo pos (starEach (e :: es) X.env)).any (·.1) || (backToKw pos (keywordEach [⟨some kw, v, kpos⟩] X.env)).any (·.1.isNone)) = false := by rfl) :
    QE X E (.Call (.Name name p) (e :: es) [⟨some kw, v, kpos⟩] pos) (dCallK n f i da) := by
  obtain ⟨a, fd, ds, h1, h2, h3, h4, h5, h6⟩ := F.ex
  obtain ⟨ta, a1, a2⟩ := ha.ex
  refine ⟨_, pe_callN h3 hr hg h1 h2 h6 hx a1 (pk_cons hv pk_nil) hall hks hdb he hpl, fun as σ H ρ cs Ed Qd Q w ev ek h k => a2 as σ H ρ cs Ed _ _ w ev ek h fun vs H1 ss cs1 e1 w1 d1 q1 => ?_⟩
  have ev1 := ev.ext e1
  cases q : ρ[i]? with
  | none => rw [q] at q1; exact q1.elim
  | some s =>
    rw [q] at q1
    cases s with
    | d x =>
      obtain ⟨hl, hf⟩ := q1
      obtain ⟨o, ho, u, rfl, hu⟩ := pr_get ev1 q
      refine ⟨u, ho, (pr_len d1).trans hl, rfl, ?_⟩
      exact ⟨as, ss ++ [.d x], cs1, Ed, Qd, w1, ar_app d1 (.cons (show SlOk X.K H1 as (some u) (.d x) ∧ Sl.d x ≠ .no from ⟨⟨u, rfl, hu⟩, fun z => by cases z⟩) .nil), ek.ext e1, hf, fun v' H' x' cs' e2 w2 d2 q2 => k v' H' x' cs' (e1.trans e2) w2 d2 q2⟩
    | _ => exact q1.elim
end
end Kp

namespace Kp
open PySem PySem.Spec PyProof.Rows L2
/-! ### what may be shown, built up -/
structure Shw (x : PyData) (dp wt : Nat) : Prop where
  s : x.showable = true
  n : x.hasDict = false
  c : x.canLay0 = true
  d : x.depth ≤ dp
  i : x.intsShort 13 = true
  w : x.weight ≤ wt
structure ShA (ds : List PyData) (dp wt : Nat) : Prop where
  s : PyData.showableAll ds = true
  n : PyData.hasDictAll ds = false
  c : PyData.canLayAll0 ds = true
  d : PyData.depthAll ds ≤ dp
  i : PyData.intsShortAll 13 ds = true
  w : PyData.weightAll ds ≤ wt
theorem Shw.none {dp w : Nat} : Shw .none dp w := ⟨rfl, rfl, rfl, Nat.zero_le _, rfl, Nat.zero_le _⟩
theorem Shw.bool {b : Bool} {dp w : Nat} : Shw (.bool b) dp w := ⟨rfl, rfl, rfl, Nat.zero_le _, rfl, Nat.zero_le _⟩
theorem Shw.int {i : Int} {dp : Nat} (h : i.natAbs < 10 ^ 12) : Shw (.int i) dp 40 := by
  have z := (Sml.cons h .nil).weight
  obtain ⟨h1, h2, h3, h4, h5⟩ := (Sml.cons h .nil).facts
  have e1 : PyData.showableAll [.int i] = (PyData.showable (.int i) && true) := by simp only [PyData.showableAll]
  have e5 : PyData.intsShortAll 13 [.int i] = (PyData.intsShort 13 (.int i) && true) := by simp only [PyData.intsShortAll]
  have ew : PyData.weightAll [.int i] = PyData.weight (.int i) + 1 + 0 := by simp only [PyData.weightAll]
  rw [e1, Bool.and_true] at h1
  rw [e5, Bool.and_true] at h5
  rw [ew] at z
  refine ⟨h1, rfl, rfl, Nat.zero_le _, h5, ?_⟩
  simp only [List.length_cons, List.length_nil] at z
  omega
theorem ShA.nil {dp w : Nat} : ShA [] dp w := ⟨rfl, rfl, rfl, Nat.zero_le _, rfl, Nat.zero_le _⟩
theorem ShA.cons {d : PyData} {ds : List PyData} {dp w1 w2 : Nat} (h : Shw d dp w1) (t : ShA ds dp w2) : ShA (d :: ds) dp (w1 + 1 + w2) := by
  have z1 := h.w
  have z2 := t.w
  refine ⟨?_, ?_, ?_, ?_, ?_, ?_⟩
  · simp only [PyData.showableAll, h.s, t.s]; rfl
  · simp only [PyData.hasDictAll, h.n, t.n]; rfl
  · simp only [PyData.canLayAll0, h.c, t.c]; rfl
  · show max (PyData.depth d) (PyData.depthAll ds) ≤ dp
    exact Nat.max_le.mpr ⟨h.d, t.d⟩
  · simp only [PyData.intsShortAll, h.i, t.i]; rfl
  · simp only [PyData.weightAll]; omega
theorem ShA.tuple {ds : List PyData} {dp w : Nat} (h : ShA ds dp w) : Shw (.tuple ds) (dp + 1) w := by
  have e : PyData.depth (.tuple ds) = PyData.depthAll ds + 1 := by simp only [PyData.depth]
  exact ⟨by simp only [PyData.showable, h.s], by simp only [PyData.hasDict, h.n], by simp only [PyData.canLay0, h.c], by rw [e]; have := h.d; omega, by simp only [PyData.intsShort, h.i], by simp only [PyData.weight]; exact h.w⟩
theorem Shw.show {d : PyData} {dp w : Nat} (h : Shw d dp w) (h1 : dp ≤ 64) (h2 : w ≤ 1048576) : showB d = true := by
  have z1 := h.d
  have z2 := h.w
  have w1 : d.weight ≤ 2 ^ 20 := by
    have : (2 : Nat) ^ 20 = 1048576 := by decide
    omega
  have lay : PyData.layable0 d = true := by
    show (d.canLay0 && decide (d.depth ≤ 64) && decide (d.weight ≤ 2 ^ 20)) = true
    rw [h.c, decide_eq_true (show d.depth ≤ 64 by omega), decide_eq_true w1]; rfl
  have sz : d.shown.length ≤ sizeLine := Nat.le_trans (shown_le13 lay h.i) (by decide)
  show (d.showable && (!d.hasDict && ((d.canLay0 && decide (d.depth ≤ 64)) && decide (d.shown.length ≤ sizeLine)))) = true
  rw [h.s, h.n, h.c, decide_eq_true (show d.depth ≤ 64 by omega), decide_eq_true sz]; rfl
end Kp

namespace Kp
open PySem PySem.Spec PyProof.Rows L2
section
variable {K : Frag} {E : XK} {X : Cx}
theorem qEqT {Q : PyData → CS → Prop} {a b : Str} {cs : CS} (e : a = b) (h : Q (.bool true) cs) : Q (.bool (a == b)) cs := by
  subst e
  rw [eqT]
  exact h
/-! ### a, b = e, a new list -/
def dPar2N (i j : Nat) (da : DE) (dl : DL) : DS := fun Dd ρ cs => da ρ cs Dd.ex fun x cs1 => dl ρ cs1 Dd.ex fun ds cs2 => Dd.nx 1 (((ρ.set i (.d x)).map (shSl 1)).set j (.c 0)) (ds :: cs2)
theorem q_par2N {i j : Nat} {x y : Str} {a b : Expr} {px py pt pos : Pos} {kt k2 : Nat} {pt2 : Pos} {da : DE} {dl : DL} (hc : X.calm = true) (hN : X.N.Nodup) (ha : QE X E a da) (hb : QN X E b dl) (hi : X.N[i]? = some x := by rfl) (hj : X.N[j]? = some y := by rfl) (hij : i ≠ j := by decide)
    (hx : X.env.scope.names.lookup x = some .local := by rfl) (hy : X.env.scope.names.lookup y = some .local := by rfl)
    (hs1 : starEach [a, b] X.env = (false, eval a X.env) :: starEach [b] X.env := by rfl) (hs2 : starEach [b] X.env = (false, eval b X.env) :: starEach [] X.env := by rfl)
    (hw : swappedStores [.Tuple [.Name x px, .Name y py] kt pt] (.Tuple [a, b] k2 pt2) X.env = pure (some [x, y]) := by rfl)
    (hs : swapsWithSole [.Tuple [.Name x px, .Name y py] kt pt] (.Tuple [a, b] k2 pt2) pos.line X.env = pure false := by rfl) :
    QS X E (.Assign [.Tuple [.Name x px, .Name y py] kt pt] (.Tuple [a, b] k2 pt2) pos) (dPar2N i j da dl) := by
  obtain ⟨ta, a1, a2⟩ := ha.ex
  obtain ⟨tb, b1, b2⟩ := hb.ex
  refine ⟨_, ps_par hc hN hi hj hij hx hy (pa_cons a1 (pa_cons b1 pa_nil hs2) hs1) hw hs, fun as σ H ρ cs D Dd w ev ek h S => a2 as σ H ρ cs Dd.ex _ _ w ev ek h fun v H1 x cs1 e1 w1 d1 h1 => b2 as σ H1 ρ cs1 Dd.ex _ _ w1 (ev.ext e1) (ek.ext e1) h1 fun p H2 ds cs2 e2 hp w2 h2 => ?_⟩
  have hf1 : ∀ q ∈ [p], H1 q = none := fun q hq => by rw [List.mem_singleton.mp hq]; exact hp
  have hf0 : ∀ q ∈ [p], H q = none := fun q hq => fresh_of w1 e1 (hf1 q hq)
  have ev1 : Ev X.K H1 as (σ.set i (some v)) (ρ.set i (.d x)) := ev_set (s := .d x) (ev.ext e1) i ⟨v, rfl, d1⟩
  exact ⟨_, _, rfl, S.nx [p] _ H2 _ (ds :: cs2) hf0 (e1.trans e2) w2 (ev_set (s := .c 0) (Ev.sh hf1 ev1 e2) j ⟨p, rfl, rfl⟩) h2⟩
/-- .. where one of the names is seen from within -/
theorem q_unp2N {i j : Nat} {es : List Expr} {a b : Expr} {pos p2 : Pos} {k k2 : Nat} {pt2 : Pos} {da : DE} {dl : DL} (hc : X.calm = true) (hg : PGs X es (gNames [i, j])) (ha : QE X E a da) (hb : QN X E b dl)
    (hs1 : starEach [a, b] X.env = (false, eval a X.env) :: starEach [b] X.env := by rfl) (hs2 : starEach [b] X.env = (false, eval b X.env) :: starEach [] X.env := by rfl)
    (hn : (assignEach es X.env).length = 2 := by rfl) (hst : (assignEach es X.env).findIdx? (·.1) = none := by rfl)
    (hs : swapsWithSole [.Tuple es k p2] (.Tuple [a, b] k2 pt2) pos.line X.env = pure false := by rfl) (hw : swappedStores [.Tuple es k p2] (.Tuple [a, b] k2 pt2) X.env = pure none := by rfl)
    (h1 : (assignEach [.Tuple es k p2] X.env).map (·.2) = [assign (.Tuple es k p2) X.env] := by rfl) :
    QS X E (.Assign [.Tuple es k p2] (.Tuple [a, b] k2 pt2) pos) (dPar2N i j da dl) := by
  obtain ⟨ta, a1, a2⟩ := ha.ex
  obtain ⟨tb, b1, b2⟩ := hb.ex
  refine ⟨_, ps_asg (pe_tup (pa_cons a1 (pa_cons b1 pa_nil hs2) hs1)) (pg_tup hc hg hn hst) hs hw h1, fun as σ H ρ cs D Dd w ev ek h S => a2 as σ H ρ cs Dd.ex _ _ w ev ek h fun v H1 x cs1 e1 w1 d1 h1 => b2 as σ H1 ρ cs1 Dd.ex _ _ w1 (ev.ext e1) (ek.ext e1) h1 fun p H2 ds cs2 e2 hp w2 h2 => ?_⟩
  refine ⟨(show 2 ≤ sizeLine by decide), fun q hq => ?_⟩
  have hf1 : ∀ q ∈ [p], H1 q = none := fun q hq => by rw [List.mem_singleton.mp hq]; exact hp
  have hf0 : ∀ q ∈ [p], H q = none := fun q hq => fresh_of w1 e1 (hf1 q hq)
  have e3 := e2.trans (Ext.of (as := as) (Same.new (o := .tup [v, .ref p]) hq))
  have ev1 : Ev X.K H1 as (σ.set i (some v)) (ρ.set i (.d x)) := ev_set (s := .d x) (ev.ext e1) i ⟨v, rfl, d1⟩
  exact ⟨_, _, rfl, SqT.of upd_same, rfl, ⟨_, _, rfl, ⟨_, _, rfl, ⟨rfl, S.nx [p] _ _ _ (ds :: cs2) hf0 (e1.trans e3) (w2.grow (Same.new hq)) (ev_set (s := .c 0) (Ev.sh hf1 ev1 e3) j ⟨p, rfl, rfl⟩) h2⟩⟩⟩⟩
/-! ### cells as data, for an expression that changes none -/
theorem Ext.nil {H H' : Hp} (e : Ext [] H H') : Same H H' := fun b o h => e b o (by simp) h
theorem Ev.frz {H : Hp} {as : List Addr} {cs : CS} {σ : L2.St} {ρ : List Sl} (w : Wk K H as cs) (e : Ev K H as σ ρ) : Ev K H [] σ (ρ.map (disSl cs.length cs)) := by
  have w' : Wk K H (as ++ []) cs := by rw [List.append_nil]; exact w
  have e' : Ev K H (as ++ []) σ ρ := by rw [List.append_nil]; exact e
  have q := Ev.diss w' e'
  rw [pr_len w.cel] at q
  exact q
theorem ek_frz {H : Hp} {as : List Addr} {cs : CS} {Ed : XD} (h : EK K E Ed as H) (w : Wk K H as cs) : EK K E (fun C _ => Ed C cs) [] H := fun C H' cs' e w' q => h C H' cs (Ext.of e.nil) (w.grow e.nil) q
def dFrzT (dt : DT) : DT := fun ρ cs Ed Q => dt (ρ.map (disSl cs.length cs)) [] (fun C _ => Ed C cs) fun b _ => Q b cs
theorem q_frzT {e : Expr} {dt : DT} (h : QT X E e dt) : QT X E e (dFrzT dt) := by
  obtain ⟨t, a1, a2⟩ := h.ex
  exact ⟨_, a1, fun as σ H ρ cs Ed Qd Q w ev ek h k => a2 [] σ H _ [] _ _ _ Wk.nil (ev.frz w) (ek_frz ek w) h fun b H' cs' e w' q => k b H' cs (Ext.of e.nil) (w.grow e.nil) q⟩
mutual
def noL : PyData → Bool
  | .none => true
  | .bool _ => true
  | .int _ => true
  | .str _ => true
  | .tuple ds => noLs ds
  | _ => false
def noLs : List PyData → Bool
  | [] => true
  | d :: r => noL d && noLs r
end
mutual
theorem Dq.free {H : Hp} {as : List Addr} (hl : ∀ a ∈ as, ∃ xs, H a = some (.lst xs)) : ∀ {v : V} {x : PyData}, Dq K H v x → noL x = true → Dq K (hid H as) v x
  | _, _, .non, _ => .non
  | _, _, .bl b, _ => .bl b
  | _, _, .int i, _ => .int i
  | _, _, .str i, _ => .str i
  | _, _, .lst _ _, h => by simp [noL] at h
  | _, _, .emp _, h => by simp [noL] at h
  | _, _, .tup (a := a) h t, q => .tup (by
      rcases h with (h | ⟨o, h⟩) | h
      · refine .inl (.inl ?_)
        rw [hid_out fun z => by obtain ⟨xs, e⟩ := hl a z; rw [e] at h; cases h]
        exact h
      · refine .inl (.inr ⟨o, ?_⟩)
        rw [hid_out fun z => by obtain ⟨xs, e⟩ := hl a z; rw [e] at h; cases h]
        exact h
      · exact .inr h) (DqAll.free hl t (by simp only [noL] at q; exact q))
theorem DqAll.free {H : Hp} {as : List Addr} (hl : ∀ a ∈ as, ∃ xs, H a = some (.lst xs)) : ∀ {vs : List V} {ds : List PyData}, DqAll K H vs ds → noLs ds = true → DqAll K (hid H as) vs ds
  | _, _, .nil, _ => .nil
  | _, _, .cons h t, q => by
    simp only [noLs, Bool.and_eq_true] at q
    exact .cons (Dq.free hl h q.1) (DqAll.free hl t q.2)
end
theorem Wk.lists {H : Hp} {as : List Addr} {cs : CS} (w : Wk K H as cs) : ∀ a ∈ as, ∃ xs, H a = some (.lst xs) := fun a h => by
  obtain ⟨i, hi⟩ := List.getElem?_of_mem h
  obtain ⟨_, _, xs, e, _⟩ := pr_get' w.cel hi
  exact ⟨xs, e⟩
def dFrz (de : DE) : DE := fun ρ cs Ed Q => de (ρ.map (disSl cs.length cs)) [] (fun C _ => Ed C cs) fun x _ => noL x = true ∧ Q x cs
theorem q_frz {e : Expr} {de : DE} (h : QE X E e de) : QE X E e (dFrz de) := by
  obtain ⟨t, a1, a2⟩ := h.ex
  refine ⟨_, a1, fun as σ H ρ cs Ed Qd Q w ev ek h k => a2 [] σ H _ [] _ _ _ Wk.nil (ev.frz w) (ek_frz ek w) h fun v H' x cs' e w' d q => ?_⟩
  rw [hid_nil] at d
  exact k v H' x cs (Ext.of e.nil) (w.grow e.nil) (d.free (w.grow e.nil).lists q.1) q.2
theorem noLs_ints : ∀ ns : List Int, noLs (ns.map .int) = true
  | [] => rfl
  | _ :: r => by simp only [List.map_cons, noLs, noL, noLs_ints r, Bool.and_self]
theorem AllI.noL {lo hi : Int} : ∀ {ds : List PyData}, AllI lo hi ds → noLs ds = true
  | _, .nil => rfl
  | _, .cons _ _ t => by simp only [noLs, Kp.noL, AllI.noL t, Bool.and_self]
end
end Kp

namespace Kp
open PySem PySem.Spec PyProof.Rows L2
section
variable {K : Frag} {E : XK} {X : Cx}
/-! ### x.extend(a list) -/
def dExt (i : Nat) (dv : DE) : DS := fun Dd ρ cs => match ρ[i]? with
  | some (.c j) => (cs[j]?).isSome = true ∧ dv ρ cs Dd.ex fun x cs1 => match x with
    | .list es => ∃ ds, cs1[j]? = some ds ∧ ds.length + es.length ≤ sizeLine ∧ Dd.nx 0 ρ (cs1.set j (ds ++ es))
    | _ => False
  | _ => False
theorem q_ext {o e : Expr} {pos apos cpos : Pos} {dv : DE} (i : Nat) (ho : PE X o (tVar i)) (hv : QE X E e dv)
    (hs0 : swapsWith (.Call (.Attribute o "extend" apos) [e] [] cpos) none pos.line X.env = pure false := by rfl)
    (hbase : attributeBase o "extend" X.env (eval o X.env) = eval o X.env := by rfl)
    (hfew : ((backTo cpos (starEach [e] X.env)).all (fun x => !x.1) && (backToKw cpos (keywordEach [] X.env)).all (fun x => x.1.isSome)
      && decide (([e] : List Expr).length + ([] : List Keyword).length + (if ([] : List Keyword).isEmpty then 0 else 1) < 30)) = true := by rfl)
    (hline : (apos.endLine == cpos.line) = true := by rfl) (hs : starEach [e] X.env = (false, eval e X.env) :: starEach [] X.env := by rfl) (hplain : (backTo cpos (starEach [] X.env)).any (·.1) = false := by rfl) :
    QS X E (.Expr (.Call (.Attribute o "extend" apos) [e] [] cpos) pos) (dExt i dv) := by
  obtain ⟨tv, v1, v2⟩ := hv.ex
  refine ⟨_, ps_expr (pe_bm PySem.F.plainAttrs_list PySem.F.slot_list_extend PySem.F.type_list_extend mt_extend ho (pa_cons v1 pa_nil hs) hbase hfew hline hs hplain) hs0, fun as σ H ρ cs D Dd w ev ek h S => ?_⟩
  unfold dExt at h
  cases q : ρ[i]? with
  | none => rw [q] at h; exact h.elim
  | some s =>
    rw [q] at h
    obtain ⟨o, hoo, hss⟩ := pr_get ev q
    cases s with
    | c j =>
      obtain ⟨a, g1, rfl⟩ := hss
      obtain ⟨h0, h⟩ := h
      obtain ⟨ds0, hd0⟩ := Option.isSome_iff_exists.mp h0
      obtain ⟨a0, g0, xs0, g00, _⟩ := pr_get w.cel hd0
      rw [g1] at g0
      cases g0
      refine ⟨_, hoo, .inl ⟨rfl, xs0, SqL.of g00⟩, v2 as σ H ρ cs Dd.ex _ _ w ev ek h fun v H1 x cs1 e1 w1 d1 h1 => ?_⟩
      cases d1 <;> try exact h1.elim
      rename_i b zs es gb gz
      obtain ⟨ds, g2, g3, g4⟩ := h1
      obtain ⟨a', g5, xs, g6, g7⟩ := pr_get w1.cel g2
      rw [g1] at g5
      cases g5
      have ha : a ∈ as := List.mem_of_getElem? g1
      exact ⟨a, b, xs, zs, rfl, rfl, g6, hid1 gb, by rw [g7.len, gz.len]; exact g3, S.nx [] σ _ ρ _ (fun _ z => nomatch z) (e1.trans (ext_upd ha)) (w1.put g1 (g7.app gz)) ((ev.ext e1).ext (ext_upd ha)) g4⟩
    | _ => exact h.elim
/-! ### f(e, .., k = an expression) -/
def dCallKe (n : Nat) (f : FD) (da : DA) (dv : DE) : DE := fun ρ cs Ed Q => da ρ cs Ed fun ss cs1 => dv ρ cs1 Ed fun x cs2 => ss.length = n ∧ f (ss ++ [.d x]) cs2 Ed Q
theorem q_callKe {k n : Nat} {name kw : Str} {ps : List Str} {b : Bool} {f : FD} {e v : Expr} {es : List Expr} {p pos kpos : Pos} {da : DA} {dv : DE} (hv : QE X E v dv) (F : CalK X.prog X.w X.K X.mg X.base k name ps n kw b f) (hr : Room k X.A) (hx : Passes (L2.CX X.prog X.w) X E) (ha : QA X E (e :: es) da)
    (hg : Gl X name := by rfl) (hdb : (name == ("__debug__" : Str)) = false := by decide) (he : starEach (e :: es) X.env = (false, eval e X.env) :: starEach es X.env := by rfl)
    (hall : (backToKw pos (keywordEach [⟨some kw, v, kpos⟩] X.env)).all (·.1.isSome) = true := by rfl) (hks : (backToKw pos (keywordEach [⟨some kw, v, kpos⟩] X.env)).filterMap (·.1) = [kw] := by rfl)
    (hpl : ((backTo pos (starEach (e :: es) X.env)).any (·.1) || (backToKw pos (keywordEach [⟨some kw, v, kpos⟩] X.env)).any (·.1.isNone)) = false := by rfl) :
    QE X E (.Call (.Name name p) (e :: es) [⟨some kw, v, kpos⟩] pos) (dCallKe n f da dv) := by
  obtain ⟨a, fd, ds, h1, h2, h3, h4, h5, h6⟩ := F.ex
  obtain ⟨ta, a1, a2⟩ := ha.ex
  obtain ⟨tv, v1, v2⟩ := hv.ex
  refine ⟨_, pe_callN h3 hr hg h1 h2 h6 hx a1 (pk_cons v1 pk_nil) hall hks hdb he hpl, fun as σ H ρ cs Ed Qd Q w ev ek h k => a2 as σ H ρ cs Ed _ _ w ev ek h fun vs H1 ss cs1 e1 w1 d1 q1 => v2 as σ H1 ρ cs1 Ed _ _ w1 (ev.ext e1) (ek.ext e1) q1 fun u H2 x cs2 e2 w2 d2 q2 => ?_⟩
  obtain ⟨hl, hf⟩ := q2
  refine ⟨(pr_len d1).trans hl, rfl, ?_⟩
  exact ⟨as, ss ++ [.d x], cs2, Ed, Qd, w2, ar_app (d1.ext e2) (.cons (show SlOk X.K H2 as (some u) (.d x) ∧ Sl.d x ≠ .no from ⟨⟨u, rfl, d2⟩, fun z => by cases z⟩) .nil), (ek.ext e1).ext e2, hf, fun v' H' x' cs' e3 w3 d3 q3 => k v' H' x' cs' ((e1.trans e2).trans e3) w3 d3 q3⟩
end
end Kp

namespace Kp
open PySem PySem.Spec PyProof.Rows L2
section
variable {K : Frag} {E : XK} {X : Cx}
/-! ### all -/
def cAll : RC := fun ds Q => match ds with
  | [.list xs] => ∃ bs : List Bool, xs = bs.map .bool ∧ Q (.bool (bs.all id))
  | _ => False
theorem dq_bools {H : Hp} : ∀ {vs : List V} (bs : List Bool), DqAll K H vs (bs.map .bool) → vs = bs.map V.bl
  | [], [], _ => rfl
  | _, b :: bs, h => by
    cases h with
    | cons h t =>
      cases h
      rw [dq_bools bs t]; rfl
theorem sc_all : SC K (rAll K) cAll := fun as H cs vs ds Qd Q w d h k => by
  match ds, d with
  | [.list xs], .cons (.lst h1 h2) .nil =>
    obtain ⟨bs, rfl, h3⟩ := h
    have e := dq_bools bs h2
    subst e
    exact ⟨_, bs, rfl, SqL.of (hid1 h1), k _ H _ (Same.refl H) (.bl _) h3⟩
/-! ### a text in a row of texts -/
def dInS (neg : Bool) : R2D := fun x y Q => match x, y with
  | .str s, .tuple ds => ∃ ss : List Str, ds = ss.map .str ∧ Q (.bool (if neg then !(ss.any (· == s)) else ss.any (· == s)))
  | _, _ => False
theorem dq_strs {H : Hp} : ∀ {vs : List V} (bs : List Str), DqAll K H vs (bs.map .str) → vs = bs.map V.str
  | [], [], _ => rfl
  | _, b :: bs, h => by
    cases h with
    | cons h t =>
      cases h
      rw [dq_strs bs t]; rfl
theorem flat_strs : ∀ ss : List Str, (ss.map V.str).all flatV = true
  | [] => rfl
  | _ :: r => by simp only [List.map_cons, List.all_cons, flat_strs r]; rfl
theorem in_strs (s : Str) : ∀ ss : List Str, inV (.str s) (ss.map V.str) = ss.any (· == s)
  | [] => rfl
  | a :: r => by
    have h := in_strs s r
    unfold inV at h ⊢
    simp only [List.map_cons, List.any_cons, h]
    rfl
theorem sr_inS (neg : Bool) : SR K (rIn K neg) (dInS neg) := fun as H cs v u x y Qd Q w hx hy h k => by
  cases hx <;> try exact h.elim
  cases hy <;> try exact h.elim
  rename_i s a xs ds g1 g2
  obtain ⟨ss, rfl, h3⟩ := h
  have e := dq_strs ss g2
  subst e
  refine ⟨a, _, rfl, .inr (hidT g1), rfl, flat_strs ss, ?_⟩
  rw [in_strs]
  exact k _ H _ (Same.refl H) (.bl _) h3
/-! ### (*e, x, ..) -/
def dTupS (da : DE) (dr : DA) : DE := fun ρ cs Ed Q => da ρ cs Ed fun x cs1 => match x with
  | .tuple ds => dr ρ cs1 Ed fun ss cs2 => match allD ss with
    | some es => ds.length + es.length ≤ sizeLine ∧ Q (.tuple (ds ++ es)) cs2
    | none => False
  | _ => False
theorem q_tupS {e : Expr} {es : List Expr} {x1 : Nat} {p pos : Pos} {da : DE} {dr : DA} (ha : QE X E e da) (hr : QA X E es dr) (hs : starEach (.Starred e p :: es) X.env = (true, eval e X.env) :: starEach es X.env := by rfl) : QE X E (.Tuple (.Starred e p :: es) x1 pos) (dTupS da dr) := by
  obtain ⟨ta, a1, a2⟩ := ha.ex
  obtain ⟨tr, b1, b2⟩ := hr.ex
  refine ⟨_, pe_tup (StX.pa_star a1 b1 hs), fun as σ H ρ cs Ed Qd Q w ev ek h k => a2 as σ H ρ cs Ed _ _ w ev ek h fun v H1 x cs1 e1 w1 d1 h1 => ?_⟩
  cases d1 <;> try exact h1.elim
  rename_i a xs ds g1 g2
  refine ⟨_, _, rfl, .inl (hidT g1), b2 as σ H1 ρ cs1 Ed _ _ w1 (ev.ext e1) (ek.ext e1) h1 fun vs H2 ss cs2 e2 w2 d2 h2 => ?_⟩
  cases q : allD ss with
  | none => rw [q] at h2; exact h2.elim
  | some es =>
    rw [q] at h2
    have d3 := allD_ok d2 q
    have d4 : DqAll X.K (hid H2 as) xs ds := g2.mono e2.hid
    refine ⟨by rw [List.length_append, d4.len, d3.len]; exact h2.1, fun p hp => ?_⟩
    exact k _ _ _ cs2 ((e1.trans e2).trans (Ext.of (Same.new hp))) (w2.grow (Same.new hp)) (.tup (SqT.of (hid_new (w2.fresh hp))) ((d4.app d3).mono (new_mono hp))) h2.2
/-! ### x.pop(0), x a cell -/
def dPop0 (i : Nat) : DE := fun ρ cs Ed Q => match ρ[i]? with
  | some (.c j) => ∃ d ds, cs[j]? = some (d :: ds) ∧ Q d (cs.set j ds)
  | _ => False
theorem q_pop0 {o : Expr} {apos cpos p0 : Pos} {j0 : Nat} (i : Nat) (ho : PE X o (tVar i))
    (hbase : attributeBase o "pop" X.env (eval o X.env) = eval o X.env := by rfl)
    (hfew : ((backTo cpos (starEach [.Constant (.int 0) j0 p0] X.env)).all (fun x => !x.1) && (backToKw cpos (keywordEach [] X.env)).all (fun x => x.1.isSome)
      && decide (([.Constant (.int 0) j0 p0] : List Expr).length + ([] : List Keyword).length + (if ([] : List Keyword).isEmpty then 0 else 1) < 30)) = true := by rfl)
    (hline : (apos.endLine == cpos.line) = true := by rfl) (hs : starEach [.Constant (.int 0) j0 p0] X.env = (false, eval (.Constant (.int 0) j0 p0) X.env) :: starEach [] X.env := by rfl) (hplain : (backTo cpos (starEach [] X.env)).any (·.1) = false := by rfl) :
    QE X E (.Call (.Attribute o "pop" apos) [.Constant (.int 0) j0 p0] [] cpos) (dPop0 i) := by
  refine ⟨_, pe_bm PySem.F.plainAttrs_list PySem.F.slot_list_pop PySem.F.type_list_pop mt_popAt ho (pa_cons pe_int pa_nil hs) hbase hfew hline hs hplain, fun as σ H ρ cs Ed Qd Q w ev ek h k => ?_⟩
  unfold dPop0 at h
  cases q : ρ[i]? with
  | none => rw [q] at h; exact h.elim
  | some s =>
    rw [q] at h
    obtain ⟨o, hoo, hss⟩ := pr_get ev q
    cases s with
    | c j =>
      obtain ⟨a, g1, rfl⟩ := hss
      obtain ⟨d, ds, g2, g4⟩ := h
      obtain ⟨a', g5, xs, g6, g7⟩ := pr_get w.cel g2
      rw [g1] at g5
      cases g5
      have ha : a ∈ as := List.mem_of_getElem? g1
      cases g7 with
      | cons r t =>
        rename_i v vs
        refine ⟨_, hoo, .inl ⟨rfl, _, SqL.of g6⟩, a, _, 0, 0, v, rfl, rfl, g6, by decide, by decide, ?_, rfl, ?_⟩
        · exact seqIndex_of (by decide) (by simp only [List.length_cons]; omega)
        · exact k v _ d _ (ext_upd ha) (w.put g1 t) (by rw [hid_upd ha]; exact r) g4
    | _ => exact h.elim
/-! ### sorted(e, reverse=True), of ints -/
def dSrtR (da : DE) : DE := fun ρ cs Ed Q => da ρ cs Ed fun x cs1 => match x with
  | .list ds => ∃ ns : List Int, ds = ns.map .int ∧ ∀ ns' : List Int, ns'.Perm ns → ns'.Pairwise (· ≥ ·) → Q (.list (ns'.map .int)) cs1
  | _ => False
theorem dq_ints' {H : Hp} : ∀ {vs : List V} (bs : List Int), DqAll K H vs (bs.map .int) → vs = bs.map V.int
  | [], [], _ => rfl
  | _, b :: bs, h => by
    cases h with
    | cons h t =>
      cases h
      rw [dq_ints' bs t]; rfl
theorem q_srtR {e : Expr} {p pos kp vp : Pos} {j0 : Nat} {da : DE} (ha : QE X E e da) (hm : X.mg "sorted" = none) (hg : Gl X "sorted" := by rfl)
    (he0 : starEach [e] X.env = (false, eval e X.env) :: starEach [] X.env := by rfl)
    (he : backTo pos (starEach [e] X.env) = (false, eval e X.env) :: backTo pos (starEach [] X.env) := by rfl) (hpl : (backTo pos (starEach [e] X.env)).any (·.1) = false := by rfl)
    (hall : (backToKw pos (keywordEach [⟨some "reverse", .Constant (.bool true) j0 vp, kp⟩] X.env)).all (·.1.isSome) = true := by rfl) (hnone : (backToKw pos (keywordEach [⟨some "reverse", .Constant (.bool true) j0 vp, kp⟩] X.env)).any (·.1.isNone) = false := by rfl)
    (hks : (backToKw pos (keywordEach [⟨some "reverse", .Constant (.bool true) j0 vp, kp⟩] X.env)).filterMap (·.1) = [Str.ofString "reverse"] := by rfl) :
    QE X E (.Call (.Name "sorted" p) [e] [⟨some "reverse", .Constant (.bool true) j0 vp, kp⟩] pos) (dSrtR da) := by
  obtain ⟨ta, a1, a2⟩ := ha.ex
  refine ⟨_, pe_callBK (cr_sortedRev (b := true)) hg hm (by decide +kernel) (pa_cons a1 pa_nil he0) (pk_cons pe_bl pk_nil) (he := he) (hpl := hpl) (hall := hall) (hnone := hnone) (hks := hks), fun as σ H ρ cs Ed Qd Q w ev ek h k => a2 as σ H ρ cs Ed _ _ w ev ek h fun v H1 x cs1 e1 w1 d1 h1 => ?_⟩
  cases d1 <;> try exact h1.elim
  rename_i a xs ds g1 g2
  obtain ⟨ns, rfl, h2⟩ := h1
  have ee := dq_ints' ns g2
  subst ee
  refine ⟨a, ns, rfl, rfl, SqL.of (hid1 g1), fun ns' p hp ho hf => ?_⟩
  exact k _ _ _ cs1 (e1.trans (Ext.of (Same.new hf))) (w1.grow (Same.new hf)) (.lst (hid_new (w1.fresh hf)) (dq_ints ns')) (h2 ns' hp ho)
/-! ### for i, x in enumerate(e) -/
def dForE (da : DE) (is : List Nat) (body : DS) : DS := fun Dd ρ cs => da ρ cs Dd.ex fun x cs1 => match x with
  | .list ds => dLp ds.length (fun t => .tuple [.int t, nth ds t]) (putT is) body Dd ρ cs1
  | _ => False
theorem q_forE {elts : List Expr} {kk : Nat} {tpos : Pos} {e : Expr} {body : List Stmt} {p p2 pos : Pos} {da : DE} {is : List Nat} {db : DS} (hp : PassesOwn (model X.prog X.w) X.A X.env X.xe) (hc : X.calm = true) (hm : X.mg "enumerate" = none) (ha : QE X E e da) (hg : QG X (.Tuple elts kk tpos) (putT is)) (hb : QSs X E body db)
    (hgl : Gl X "enumerate" := by rfl) (he0 : starEach [e] X.env = (false, eval e X.env) :: starEach [] X.env := by rfl) (hs : starEach [e] X.env = [(false, eval e X.env)] := by rfl) (hs2 : ∀ x, foldedSetIterable (.Call (.Name "enumerate" p) [e] [] p2) X.env x = pure x := by intro _; rfl) :
    QS X E (.For (.Tuple elts kk tpos) (.Call (.Name "enumerate" p) [e] [] p2) body [] pos) (dForE da is db) := by
  obtain ⟨ta, a1, a2⟩ := ha.ex
  obtain ⟨tgt, g1, g2⟩ := hg.ex
  obtain ⟨tb, b1, b2⟩ := hb.ex
  refine ⟨_, ps_for hp hc (pi_enum hgl hm (pa_cons a1 pa_nil he0) hs) g1 b1 hs2, fun as σ H ρ cs D Dd w ev ek h S => a2 as σ H ρ cs Dd.ex _ _ w ev ek h fun v H1 x cs1 e1 w1 d1 h1 => ?_⟩
  cases d1 <;> try exact h1.elim
  rename_i a xs ds q1 q2
  have hlen := q2.len
  refine ⟨a, xs, rfl, SqL.of (hid1 q1), ?_⟩
  obtain ⟨Inv, h0, hst, hd⟩ := h1
  refine ⟨fun t m σ' H' => m = ds.length - t ∧ t ≤ ds.length ∧ ∃ ρ' cs', Ext as H1 H' ∧ Wk X.K H' as cs' ∧ Ev X.K H' as σ' ρ' ∧ Inv t ρ' cs', ⟨ds.length, by simp, Nat.zero_le _, ρ, cs1, Ext.refl, w1, ev.ext e1, h0⟩, ?_⟩
  rintro t m σ2 H2 ⟨rfl, ht, ρ2, cs2, e2, w2, ev2, i2⟩
  have hL : SqL X.K H2 a xs := SqL.of (hid1 (e2.hid _ _ q1))
  have q2' : DqAll X.K (hid H2 as) xs ds := q2.mono e2.hid
  by_cases hlt : t < ds.length
  · have hx : t < xs.length := by omega
    refine .inr ⟨⟨xs, xs[t], hL, List.getElem?_eq_getElem hx⟩, fun σ' H' => ∃ ρ' cs', Ext as H1 H' ∧ Wk X.K H' as cs' ∧ Ev X.K H' as σ' ρ' ∧ Inv (t + 1) ρ' cs', fun σ' H' q => ⟨ds.length - (t + 1), by omega, rfl, hlt, q⟩, fun x H3 y => ?_⟩
    obtain ⟨T, z, rfl, hT, rfl, hz⟩ := y
    obtain ⟨dz, k1, k2⟩ := q2'.get' (hz xs hL)
    have en : nth ds t = dz := by unfold nth; rw [List.getD_eq_getElem?_getD, k1]; rfl
    obtain ⟨ρ3, p1, p2⟩ := hst t ρ2 cs2 hlt i2
    have dx : Dq X.K (hid (upd H2 T (.tup [.int (t : Nat), z])) as) (.ref T) (.tuple [.int t, nth ds t]) := by
      refine .tup (SqT.of (hid_new (w2.fresh hT))) (.cons (.int _) (.cons ?_ .nil))
      rw [en]
      exact k2.mono (new_mono hT)
    have w3 := w2.grow (Same.new (o := .tup [.int (t : Nat), z]) hT)
    have e3 : Ext as H1 (upd H2 T (.tup [.int (t : Nat), z])) := e2.trans (Ext.of (Same.new hT))
    refine g2 as σ2 _ ρ2 ρ3 _ _ _ (ev2.ext (Ext.of (Same.new hT))) dx p1 fun σ3 ev3 => ?_
    refine b2 as σ3 _ ρ3 cs2 _ { Dd with nx := fun k ρ' cs' => Inv (t + 1) (ρ'.map (disSl k cs')) (cs'.drop k), ct := fun k ρ' cs' => Inv (t + 1) (ρ'.map (disSl k cs')) (cs'.drop k), bk := Dd.nx } w3 ev3 ((ek.ext e1).ext e3) p2 ?_
    have S1 := (S.ext w1 e1).ext w3 e3
    exact ⟨fun ex σ4 H4 ρ4 cs4 hf e4 w4 ev4 q => ⟨_, _, e3.trans e4, w4.drop, ev4.diss w4, q⟩, S1.nx, fun ex σ4 H4 ρ4 cs4 hf e4 w4 ev4 q => ⟨_, _, e3.trans e4, w4.drop, ev4.diss w4, q⟩, S1.rt, S1.rf⟩
  · have e : t = ds.length := by omega
    subst e
    exact .inl ⟨⟨xs, hL, by omega⟩, S.nx [] σ2 H2 ρ2 cs2 (fun _ z => nomatch z) (e1.trans e2) w2 ev2 (hd ρ2 cs2 i2)⟩
/-! ### [.. for a, b in ..] -/
def setV : List Nat → List V → L2.St → L2.St
  | i :: is, v :: vs, σ => setV is vs (σ.set i (some v))
  | _, _, σ => σ
theorem setV_len : ∀ (is : List Nat) (vs : List V) (σ : L2.St), (setV is vs σ).length = σ.length
  | [], _, _ => rfl
  | _ :: _, [], _ => rfl
  | i :: is, v :: vs, σ => by
    show (setV is vs (σ.set i (some v))).length = _
    rw [setV_len is vs, List.length_set]
theorem wipe_at (σ : L2.St) : ∀ (js : List Nat) (k : Nat), (wipe σ js)[k]? = if k ∈ js then (if k < σ.length then some none else none) else σ[k]?
  | [], k => by show σ[k]? = _; simp
  | j :: js, k => by
    show ((wipe σ js).set j none)[k]? = _
    rw [List.getElem?_set, wipe_length, wipe_at σ js k]
    by_cases e : j = k
    · subst e
      simp
    · rw [if_neg e]
      have : k ∈ j :: js ↔ k ∈ js := by simp [Ne.symm e]
      simp only [this]
theorem setV_out : ∀ (is : List Nat) (vs : List V) (σ : L2.St) (k : Nat), k ∉ is → (setV is vs σ)[k]? = σ[k]?
  | [], _, _, _, _ => rfl
  | _ :: _, [], _, _, _ => rfl
  | i :: is, v :: vs, σ, k, h => by
    show (setV is vs (σ.set i (some v)))[k]? = _
    rw [setV_out is vs _ k (fun z => h (List.mem_cons_of_mem _ z)), List.getElem?_set_ne (fun z => h (by rw [z]; exact List.mem_cons_self))]
theorem wipe_setV (is : List Nat) (vs : List V) (σ : L2.St) : wipe (setV is vs (wipe σ is)) is = wipe σ is := by
  refine List.ext_getElem? fun k => ?_
  rw [wipe_at, wipe_at, setV_len, wipe_length]
  by_cases h : k ∈ is
  · rw [if_pos h, if_pos h]
  · rw [if_neg h, if_neg h, setV_out is vs _ k h, wipe_at, if_neg h]
theorem setV_eq : ∀ (is : List Nat) (vs : List V) (σ1 σ2 : L2.St), vs.length = is.length → σ1.length = σ2.length → (∀ k, k ∉ is → σ1[k]? = σ2[k]?) → setV is vs σ1 = setV is vs σ2
  | [], vs, σ1, σ2, _, _, h => by
    show σ1 = σ2
    exact List.ext_getElem? fun k => h k (by simp)
  | i :: is, v :: vs, σ1, σ2, hl, hn, h => by
    show setV is vs (σ1.set i (some v)) = setV is vs (σ2.set i (some v))
    refine setV_eq is vs _ _ (by simpa using hl) (by rw [List.length_set, List.length_set]; exact hn) fun k hk => ?_
    rw [List.getElem?_set, List.getElem?_set, hn]
    by_cases e : i = k
    · rw [if_pos e, if_pos e]
    · rw [if_neg e, if_neg e]
      exact h k (fun z => (List.mem_cons.mp z).elim (fun q => e q.symm) hk)
  | _ :: _, [], _, _, hl, _, _ => by simp at hl
theorem names_okV {as : List Addr} {H : Hp} {Q : L2.St → Hp → Prop} : ∀ {is : List Nat} {vs : List V} {σ : L2.St}, vs.length = is.length → Q (setV is vs σ) H → gNames is vs σ H Q
  | [], [], σ, _, k => ⟨rfl, k⟩
  | i :: is, v :: vs, σ, h, k => ⟨_, _, rfl, names_okV (is := is) (as := as) (by simpa using h) k⟩
  | [], _ :: _, _, h, _ => by simp at h
  | _ :: _, [], _, h, _ => by simp at h
theorem ev_setV {as : List Addr} {H : Hp} : ∀ {is : List Nat} {vs : List V} {ds : List PyData} {σ : L2.St} {ρ ρ' : List Sl}, Ev K H as σ ρ → DqAll K (hid H as) vs ds → setAll is ds ρ = some ρ' → Ev K H as (setV is vs σ) ρ'
  | [], _, _, σ, ρ, ρ', ev, .nil, h => by
    cases (show some ρ = some ρ' from h)
    exact ev
  | i :: is, _, _, σ, ρ, ρ', ev, .cons d ds, h => ev_setV (is := is) (ev_set (s := .d _) ev i ⟨_, rfl, d⟩) ds h
  | [], _, _, _, _, _, _, .cons _ _, h => by cases h
  | _ :: _, _, _, _, _, _, _, .nil, h => by cases h
def dLcT (di : DI) (is : List Nat) (dt : DT) (de : DE) : DL := fun ρ cs Ed Q => di ρ cs Ed fun n item cs1 => ∃ Inv : Nat → List PyData → CS → Prop, Inv 0 [] cs1 ∧
  (∀ t acc cs, t < n → Inv t acc cs → ∃ ρ', putT is (item t) (ρ.map (shSl 1)) = some ρ' ∧ dt ρ' (acc :: cs) X0 fun b cs2 => if b = true
    then de ρ' cs2 X0 fun y cs3 => match cs3 with
      | acc' :: cs' => acc'.length < sizeLine ∧ Inv (t + 1) (acc' ++ [y]) cs'
      | [] => False
    else match cs2 with
      | acc' :: cs' => Inv (t + 1) acc' cs'
      | [] => False) ∧
  ∀ acc cs, Inv n acc cs → Q acc cs
theorem lc_coreT {wi : TI} {is : List Nat} {tt : TT} {te : TE} {di : DI} {dt : DT} {de : DE} (i2 : SI K E wi di) (t2 : ST K E0 tt dt) (e2 : SE K E0 te de) : SN K E (tLc wi (gTup K is.length (gNames is)) tt te is) (dLcT di is dt de) := fun as σ H ρ cs Ed Qd Q w ev ek h k =>
  i2 as σ H ρ cs Ed _ _ w ev ek h fun J H1 n item cs1 e1 w1 it h1 D hD => by
    obtain ⟨Inv, h0, hs, hd⟩ := h1
    have ev1 := ev.ext e1
    have w0 : Wk K (upd H1 D (.lst [])) (D :: as) ([] :: cs1) := w1.newc hD .nil
    have e0 : ∀ {H'}, Ext (D :: as) (upd H1 D (.lst [])) H' → Ext as H1 H' := fun {H'} q b o nb hb => by
      have nbD : b ≠ D := fun z => by rw [z, hD] at hb; cases hb
      exact q b o (fun z => (List.mem_cons.mp z).elim nbD nb) (by rw [upd_ne nbD]; exact hb)
    refine ⟨fun t m H' => m = n - t ∧ t ≤ n ∧ ∃ acc cs', Ext (D :: as) (upd H1 D (.lst [])) H' ∧ Wk K H' (D :: as) (acc :: cs') ∧ Inv t acc cs', ⟨n, by simp, Nat.zero_le _, [], cs1, Ext.refl, w0, h0⟩, ?_⟩
    rintro t m H2 ⟨rfl, ht, acc, cs2, x2, w2, q2⟩
    have fD : ∀ p ∈ [D], H1 p = none := fun p hp => by rw [List.mem_singleton.mp hp]; exact hD
    obtain ⟨z1, z2⟩ := it [D] H2 fD (e0 x2)
    by_cases hlt : t < n
    · obtain ⟨z3, z4⟩ := z1 t hlt
      refine .inr ⟨z3, fun H' => ∃ acc cs', Ext (D :: as) (upd H1 D (.lst [])) H' ∧ Wk K H' (D :: as) (acc :: cs') ∧ Inv (t + 1) acc cs', fun H' q => ⟨n - (t + 1), by omega, rfl, hlt, q⟩, fun x H3 y => ?_⟩
      obtain ⟨rfl, dx⟩ := z4 x H3 y
      obtain ⟨ρ', p1, p2⟩ := hs t acc cs2 hlt q2
      have evs : Ev K H3 (D :: as) σ (ρ.map (shSl 1)) := Ev.sh (ex := [D]) fD ev1 (e0 x2)
      cases hit : item t with
      | tuple ds =>
        rw [hit] at dx p1
        cases dx with
        | tup g1 g2 =>
          rename_i a xs
          have p1' : setAll is ds (ρ.map (shSl 1)) = some ρ' := p1
          have hlen : xs.length = is.length := by rw [g2.len]; exact setAll_len p1'
          have ev3 : Ev K H3 (D :: as) (setV is xs (wipe σ is)) ρ' := by
            rw [setV_eq is xs (wipe σ is) σ hlen (wipe_length σ is) fun k hk => by rw [wipe_at, if_neg hk]]
            exact ev_setV evs g2 p1'
          refine ⟨a, xs, rfl, hidT g1, hlen, names_okV (as := D :: as) hlen ⟨wipe_setV is xs σ, ?_⟩⟩
          refine t2 (D :: as) _ H3 _ (acc :: cs2) X0 _ _ w2 ev3 ek0 p2 fun b H4 cs4 e4 w4 h4 => ?_
          cases b with
          | true =>
            refine iteT (e2 (D :: as) _ H4 _ cs4 X0 _ _ w4 (ev3.ext e4) ek0 (show de _ cs4 X0 _ by simpa using h4) fun y' H5 yd cs5 e5 w5 d5 h5 => ?_)
            obtain ⟨acc5, cs5', xs5, rfl, g1, g2⟩ := w5.head
            obtain ⟨h6, h7⟩ := h5
            refine ⟨xs5, g1, by rw [g2.len]; exact h6, _, _, ((x2.trans e4).trans e5).trans (ext_upd List.mem_cons_self), ?_, h7⟩
            exact w5.put (j := 0) rfl (g2.app (.one d5))
          | false =>
            obtain ⟨acc5, cs5', xs5, rfl, g1, g2⟩ := w4.head
            exact iteF ⟨_, _, x2.trans e4, w4, by simpa using h4⟩
      | _ => rw [hit] at p1; cases p1
    · have e : t = n := by omega
      subst e
      refine .inl ⟨z2, k D H2 acc cs2 (e1.trans (e0 x2)) (fresh_of w1 e1 hD) w2 (hd acc cs2 q2)⟩
theorem q_lcT {elt tg iter : Expr} {scope : Scope} {pos : Pos} {di : DI} {de : DE} {own : List (Str × Nat)} (hc : X.calm = true) (hN : X.N.Nodup) (hi : QI X E tg iter di) (ok : BlkOk X.N X.env.scope scope own)
    (hg : ∀ (s : Shared) (H : Hp) (C : Addr) (cl : List (Str × Addr)) (fp : List Addr), PG (X.blk s H scope (compEnvC scope cl C X.env) fp) tg (gTup X.K (own.map (·.2)).length (gNames (own.map (·.2)))))
    (he : ∀ (s : Shared) (H : Hp) (C : Addr) (cl : List (Str × Addr)) (fp : List Addr), QE (X.blk s H scope (compEnvC scope cl C X.env) fp) E0 elt de)
    (hs : ∀ x, foldedSetIterable iter X.env x = pure x := by intro _; rfl) : QN X E (.ListComp elt [⟨tg, iter, [], 0⟩] scope pos) (dLcT di (own.map (·.2)) dYes de) := by
  obtain ⟨wi, i1, i2⟩ := hi.ex
  exact ⟨_, pe_lc (own := own) (g := gTup X.K (own.map (·.2)).length (gNames (own.map (·.2)))) (tt := tYes) (te := tOfE X.K E0 de) hc hN i1 ok hg (fun _ _ _ _ _ => pts_nil) (fun s H C cl fp => (he s H C cl fp).can) hs, lc_coreT i2 st_yes' se_can⟩
end
end Kp

namespace Kp
open PySem PySem.Spec PyProof.Rows L2
/-! ### the root of any number below 2 ^ 400 -/
section
variable {X : Cx} {E : XK} {K : Frag}
def rIsqW : List V → Hp → VK → Prop := fun xs H Q => ∃ i : Int, xs = [.int i] ∧ 0 ≤ i ∧ i < 2 ^ 400 ∧ Q (.int ((Float64.isqrt i.toNat : Nat) : Int)) H
theorem log_400 {i : Int} (h0 : 0 ≤ i) (h1 : i < 2 ^ 400) : i.toNat.log2 ≤ 399 := by
  by_cases z : i.toNat = 0
  · rw [z, Nat.log2_zero]; exact Nat.zero_le _
  · have e : (2 : Int) ^ 400 = ((2 ^ 400 : Nat) : Int) := by norm_cast
    have l : i.toNat < 2 ^ 400 := by omega
    exact Nat.le_of_lt_succ ((Nat.log2_lt z).mpr l)
theorem call_isqW : CallR X (.builtin "math.isqrt") rIsqW := by
  intro pins s σ H xs us Q I r h
  obtain ⟨i, rfl, h0, h1, q⟩ := h
  obtain ⟨u, rfl, t, rfl⟩ := vals1 r
  have l := log_400 h0 h1
  have g := (PySem.W.mg_run_isqrt i t (show ¬ i < 0 by omega) (show ¬ i.toNat.log2 > 200000 by omega) (show ¬ i.toNat.log2 / 30 + 1 > 450 by omega)).meets
  exact call_function_meets
    PySem.W.MGF.kind_isqrt
    PySem.W.MGF.plain_isqrt
    PySem.W.MGF.entry_isqrt
    (PySem.W.MGF.args_isqrt _)
    g ⟨.int _, H, I.tok _, ⟨_, rfl⟩, q⟩
def cIsqW : RC := fun ds Q => match ds with
  | [.int i] => (0 ≤ i ∧ i < 2 ^ 400) ∧ Q (.int ((Float64.isqrt i.toNat : Nat) : Int))
  | _ => False
theorem sc_isqW : SC K rIsqW cIsqW := fun as H cs vs ds Qd Q w d h k => by
  match ds, d with
  | [.int i], .cons (.int _) .nil => exact ⟨i, rfl, h.1.1, h.1.2, k _ H _ (Same.refl H) (.int _) h.2⟩
theorem q_isqW {e : Expr} {p pos : Pos} {da : DA} (hm : X.mg "isqrt" = some (.builtin "math.isqrt")) (ha : QA X E [e] da) (hg : Gl X "isqrt" := by rfl) (hdb : (("isqrt" : Str) == ("__debug__" : Str)) = false := by decide)
    (he : starEach [e] X.env = (false, eval e X.env) :: starEach [] X.env := by rfl) (hpl : (backTo pos (starEach [] X.env)).any (·.1) = false := by rfl) : QE X E (.Call (.Name "isqrt" p) [e] [] pos) (dCB cIsqW da) := by
  obtain ⟨ta, a1, a2⟩ := ha.ex
  refine ⟨_, ⟨fun pins s σ H Q I h => ?_⟩, se_cb sc_isqW a2⟩
  refine wpAny_Call_Name_kw (ld_glob I hg hm ?_ hdb)
  exact PyProof.Rows.callWith_builtin1 (thn (a1.run pos pins s σ H _ I h) fun us s1 ⟨vs, H1, I1, r1, q1⟩ => call_isqW pins s1 σ H1 vs us Q I1 r1 q1) he hpl
/-! ### products of any size, a tuple so often -/
theorem tmul1 (l : Addr) (its : Array Value) (n : Nat) (dd : Option Addr) (sl : Array (Option Value)) (u : Tok) :
    Meets (Builtin.«tuple.__mul__» ⟨[.ref l, .int 1 u], []⟩) (fun _ R s => s.heap.get? l = some { cls := .type "tuple", dict := dd, data := .seq its n, slots := sl } ∧ R (.ok (.ret (Value.ref l))) s) :=
  .of_wp fun prog w A R s h => by
    obtain ⟨hp, g, d, tk, os⟩ := s
    obtain ⟨hl, h⟩ := h
    have f1 := AutoSeq1.idx_int
    wp_walk using wpAny_loadPart' hl
    exact ⟨_, rfl, h⟩
def rRep1 (K : Frag) : R2 := fun x y H Q => ∃ l xs, x = .ref l ∧ y = .int 1 ∧ SqT K H l xs ∧ Q (.ref l) H
theorem op_rep1 : OpR X (binaryOp .Mult) (rRep1 X.K) := by
  intro pins s σ H x y v u Q I rx ry h
  obtain ⟨l, xs, rfl, rfl, hT, q⟩ := h
  cases rx
  obtain ⟨t, rfl⟩ := ry
  obtain ⟨its, r, ⟨⟨cls, dd, data, sl⟩, ho, hc, n, hd⟩, hs⟩ := I.tuple hT
  simp only at hc hd
  subst hc hd
  refine wpAny_binaryOp_repeat_ref (T := "tuple") (U := "int")
    (by decide) ⟨_, ho, rfl⟩ (fun s' => typeIs_int s' 1 t)
    noFill_tuple_mul F.fills_int_mul F.slot_int_rmul repeat_tuple
    F.slot_int_index.lookup
    (call_meets F.slot_int_rmul (typeIs_int s 1 t) F.entry_int_rmul
      (F.args_int_rmul_2 _ _)
      (int_rmul_tuple 1 t l its.toArray n dd sl)
      ⟨ho, rfl, ⟨_, ho, rfl⟩, ?_⟩)
  refine call_meets F.slot_tuple_mul ⟨_, ho, rfl⟩
    F.entry_tuple_mul
    (F.args_tuple_mul_2 _ _)
    (tmul1 l its.toArray n dd sl t) ?_
  exact ⟨ho, .ref l, H, I, rfl, q⟩
abbrev rTimesW (K : Frag) : R2 := fun x y H Q => rI CMulW (fun i j => .int (i * j)) x y H Q ∨ (rRep1 K x y H Q ∨ rRepT K x y H Q)
theorem op_timesW : OpR X (binaryOp .Mult) (rTimesW X.K) := OpR.or op_mulW (OpR.or op_rep1 op_repT)
def dTimesW : R2D := fun x y Q => match x, y with
  | .int i, .int j => CMulW i j ∧ Q (.int (i * j))
  | .tuple xs, .int n => (1 ≤ n ∧ n ≤ 1000 ∧ xs ≠ [] ∧ xs.length ≤ 1000) ∧ Q (.tuple (List.replicate n.toNat xs).flatten)
  | _, _ => False
theorem sr_timesW : SR K (rTimesW K) dTimesW := fun as H cs v u x y Qd Q w hx hy h k => by
  cases hx with
  | int i =>
    cases hy <;> try exact h.elim
    exact .inl ⟨_, _, rfl, rfl, h.1, k _ H _ (Same.refl H) (.int _) h.2⟩
  | tup g1 g2 =>
    cases hy <;> try exact h.elim
    rename_i n
    obtain ⟨⟨h1, h2, h3, h4⟩, h5⟩ := h
    by_cases e : n = 1
    · subst e
      have h6 := h5
      rw [show (List.replicate (1 : Int).toNat _).flatten = _ from by
        show ([_] : List (List PyData)).flatten = _
        rw [List.flatten_cons, List.flatten_nil, List.append_nil]] at h6
      exact .inr (.inl ⟨_, _, rfl, rfl, hidT g1, k _ H _ (Same.refl H) (.tup g1 g2) h6⟩)
    · refine .inr (.inr ⟨_, n, _, rfl, rfl, hidT g1, fun z => ?_, by omega, h2, by rw [g2.len]; exact h4, fun p hp => ?_⟩)
      · subst z
        cases g2
        exact h3 rfl
      · exact k _ _ _ (Same.new hp) (.tup (SqT.of (hid_new (w.fresh hp))) ((g2.flat _).mono (new_mono hp))) h5
  | _ => exact h.elim
/-! ### a number in a row of numbers -/
def dInI (neg : Bool) : R2D := fun x y Q => match x, y with
  | .int s, .tuple ds => ∃ ss : List Int, ds = ss.map .int ∧ Q (.bool (if neg then !(ss.any (· == s)) else ss.any (· == s)))
  | _, _ => False
theorem flat_ints : ∀ ss : List Int, (ss.map V.int).all flatV = true
  | [] => rfl
  | _ :: r => by simp only [List.map_cons, List.all_cons, flat_ints r]; rfl
theorem in_ints (s : Int) : ∀ ss : List Int, inV (.int s) (ss.map V.int) = ss.any (· == s)
  | [] => rfl
  | a :: r => by
    have h := in_ints s r
    unfold inV at h ⊢
    simp only [List.map_cons, List.any_cons, h]
    rfl
theorem sr_inI (neg : Bool) : SR K (rIn K neg) (dInI neg) := fun as H cs v u x y Qd Q w hx hy h k => by
  cases hx <;> try exact h.elim
  cases hy <;> try exact h.elim
  rename_i s a xs ds g1 g2
  obtain ⟨ss, rfl, h3⟩ := h
  have e := dq_ints' ss g2
  subst e
  refine ⟨a, _, rfl, .inr (hidT g1), rfl, flat_ints ss, ?_⟩
  rw [in_ints]
  exact k _ H _ (Same.refl H) (.bl _) h3
/-! ### a op b op' c, as a test -/
theorem se_chain {K : Frag} {r r' : R2} {rd rd' : R2D} {ta tb tc : TE} {da db dc : DE} (hr : SR K r rd) (hr' : SR K r' rd') (a2 : SE K E ta da) (b2 : SE K E tb db) (c2 : SE K E tc dc) : SE K E (tChain r r' ta tb tc) (dChain rd rd' da db dc) := by
  refine fun as σ H ρ cs Ed Qd Q w e ek h k => a2 as σ H ρ cs Ed _ _ w e ek h fun v H1 x cs1 e1 w1 d1 h1 => b2 as σ H1 ρ cs1 Ed _ _ w1 (e.ext e1) (ek.ext e1) h1 fun u H2 y cs2 e2 w2 d2 h2 => ?_
  refine hr as H2 cs2 v u x y _ _ w2 (d1.mono e2.hid) d2 h2 fun z H3 zz s3 d3 h3 => ?_
  cases d3 <;> try exact h3.elim
  rename_i b
  refine ⟨b, rfl, ?_⟩
  have e3 : Ext as H H3 := (e1.trans e2).trans (Ext.of s3)
  cases b with
  | false => exact iteF (k _ H3 _ cs2 e3 (w2.grow s3) (.bl false) (by simpa using h3))
  | true =>
    refine iteT (c2 as σ H3 ρ cs2 Ed _ _ (w2.grow s3) (e.ext e3) (ek.ext e3) (show dc ρ cs2 Ed _ by simpa using h3) fun u' H4 y' cs4 e4 w4 d4 h4 => ?_)
    exact hr' as H4 cs4 u u' y y' _ _ w4 ((d2.mono (Ext.of (as := as) s3).hid).mono e4.hid) d4 h4 fun z H5 zz s5 d5 h5 => k z H5 zz cs4 ((e3.trans e4).trans (Ext.of s5)) (w4.grow s5) d5 h5
theorem q_tchain {a b c : Expr} {op op' : CmpOp} {pos : Pos} {r r' : R2} {rd rd' : R2D} {da db dc : DE} (ho : OpR X (compareOp op) r) (hr : SR X.K r rd) (ho' : OpR X (compareOp op') r') (hr' : SR X.K r' rd') (ha : QE X E a da) (hb : QE X E b db) (hc : QE X E c dc)
    (hm : lastMarks [op, op'] [b, c] = false := by with_unfolding_all rfl) : QT X E (.Compare a [op, op'] [b, c] pos) (dTB (dChain rd rd' da db dc)) := by
  obtain ⟨ta, a1, a2⟩ := ha.ex
  obtain ⟨tb, b1, b2⟩ := hb.ex
  obtain ⟨tc, c1, c2⟩ := hc.ex
  refine ⟨_, pt_chain ho ho' a1 b1 c1 hm, fun as σ H ρ cs Ed Qd Q w ev ek h k => (se_chain hr hr' a2 b2 c2) as σ H ρ cs Ed _ _ w ev ek h fun v H1 x cs1 e1 w1 d1 h1 => ?_⟩
  cases d1 <;> try exact h1.elim
  exact ⟨_, rfl, k _ H1 cs1 e1 w1 h1⟩
/-! ### sum of ints -/
def cSum : RC := fun ds Q => match ds with
  | [.list xs] => ∃ ns : List Int, xs = ns.map .int ∧ Q (.int ns.sum)
  | _ => False
theorem sc_sum : SC K (rSum K) cSum := fun as H cs vs ds Qd Q w d h k => by
  match ds, d with
  | [.list xs], .cons (.lst h1 h2) .nil =>
    obtain ⟨bs, rfl, h3⟩ := h
    have e := dq_ints' bs h2
    subst e
    exact ⟨_, bs, rfl, SqL.of (hid1 h1), k _ H _ (Same.refl H) (.int _) h3⟩
/-! ### a def with one keyword-only None -/
structure CalZ (P : Program) (w : World) (K : Frag) (mg : Str → Option Value) (base : Heap) (k : Nat) (name : Str) (ps : List Str) (n : Nat) (kw : Str) (f : FD) : Prop where
  ex : ∃ (a : Addr) (fd : FuncData) (ds : List Value), mg name = some (.ref a) ∧ PySem.W.keepIn K (.ref a) = true ∧ FnOk P w K mg base (L2.CX P w) k a fd ps (spD K f) ∧ Vals [V.non] ds ∧ Binds K fd ps ds ∧ KBn K fd ps n [kw] (fun us ws => us ++ ws) (fun vs zs => vs ++ zs)
def dCallZ (f : FD) (da : DA) : DE := fun ρ cs Ed Q => da ρ cs Ed fun ss cs1 => f (ss ++ [.d .none]) cs1 Ed Q
theorem ar_non {H : Hp} {as : List Addr} : Ar K H as [V.non] [.d .none] := .cons ⟨⟨_, rfl, .non⟩, fun z => by cases z⟩ .nil
theorem q_callZ {k n : Nat} {name kw : Str} {ps : List Str} {f : FD} {e : Expr} {es : List Expr} {p pos : Pos} {da : DA} (F : CalZ X.prog X.w X.K X.mg X.base k name ps n kw f) (hr : Room k X.A) (hx : Passes (L2.CX X.prog X.w) X E) (ha : QA X E (e :: es) da)
    (hg : Gl X name := by rfl) (hdb : (name == ("__debug__" : Str)) = false := by decide) (he : starEach (e :: es) X.env = (false, eval e X.env) :: starEach es X.env := by rfl) (hpl : (backTo pos (starEach es X.env)).any (·.1) = false := by rfl) :
    QE X E (.Call (.Name name p) (e :: es) [] pos) (dCallZ f da) := by
  obtain ⟨a, fd, ds, h1, h2, h3, h4, h5, h6⟩ := F.ex
  obtain ⟨ta, a1, a2⟩ := ha.ex
  refine ⟨_, pe_call h3 hr hg h1 h2 h5 h4 hx a1 hdb he hpl, fun as σ H ρ cs Ed Qd Q w e ek h k => a2 as σ H ρ cs Ed _ _ w e ek h fun vs H1 ss cs1 e1 w1 d1 q1 => ?_⟩
  exact ⟨as, ss ++ [.d .none], cs1, Ed, Qd, w1, ar_app d1 ar_non, ek.ext e1, q1, fun v H' x cs' e2 w2 d2 q2 => k v H' x cs' (e1.trans e2) w2 d2 q2⟩
theorem q_callZe {k n : Nat} {name kw : Str} {ps : List Str} {f : FD} {e v : Expr} {es : List Expr} {p pos kpos : Pos} {da : DA} {dv : DE} (hv : QE X E v dv) (F : CalZ X.prog X.w X.K X.mg X.base k name ps n kw f) (hr : Room k X.A) (hx : Passes (L2.CX X.prog X.w) X E) (ha : QA X E (e :: es) da)
    (hg : Gl X name := by rfl) (hdb : (name == ("__debug__" : Str)) = false := by decide) (he : starEach (e :: es) X.env = (false, eval e X.env) :: starEach es X.env := by rfl)
    (hall : (backToKw pos (keywordEach [⟨some kw, v, kpos⟩] X.env)).all (·.1.isSome) = true := by rfl) (hks : (backToKw pos (keywordEach [⟨some kw, v, kpos⟩] X.env)).filterMap (·.1) = [kw] := by rfl)
    (hpl : ((backTo pos (starEach (e :: es) X.env)).any (·.1) || (backToKw pos (keywordEach [⟨some kw, v, kpos⟩] X.env)).any (·.1.isNone)) = false := by rfl) :
    QE X E (.Call (.Name name p) (e :: es) [⟨some kw, v, kpos⟩] pos) (dCallKe n f da dv) := by
  obtain ⟨a, fd, ds, h1, h2, h3, h4, h5, h6⟩ := F.ex
  obtain ⟨ta, a1, a2⟩ := ha.ex
  obtain ⟨tv, v1, v2⟩ := hv.ex
  refine ⟨_, pe_callN h3 hr hg h1 h2 h6 hx a1 (pk_cons v1 pk_nil) hall hks hdb he hpl, fun as σ H ρ cs Ed Qd Q w ev ek h k => a2 as σ H ρ cs Ed _ _ w ev ek h fun vs H1 ss cs1 e1 w1 d1 q1 => v2 as σ H1 ρ cs1 Ed _ _ w1 (ev.ext e1) (ek.ext e1) q1 fun u H2 x cs2 e2 w2 d2 q2 => ?_⟩
  obtain ⟨hl, hf⟩ := q2
  refine ⟨(pr_len d1).trans hl, rfl, ?_⟩
  exact ⟨as, ss ++ [.d x], cs2, Ed, Qd, w2, ar_app (d1.ext e2) (.cons (show SlOk X.K H2 as (some u) (.d x) ∧ Sl.d x ≠ .no from ⟨⟨u, rfl, d2⟩, fun z => by cases z⟩) .nil), (ek.ext e1).ext e2, hf, fun v' H' x' cs' e3 w3 d3 q3 => k v' H' x' cs' ((e1.trans e2).trans e3) w3 d3 q3⟩
end
section
variable {P : Program} {w : World} {K : Frag} {mg : Str → Option Value} {base : Heap} {name qual kw : Str} {params : Arguments} {body : List Stmt} {scope : Scope} {a : Addr} {fd : FuncData} {ps : List Str} {k n : Nat} {f : FD}
theorem kb_allZ (F : FunD K name qual params body scope [] [(kw, .non)] a fd) (n : Nat)
    (h : ∀ (kV doc pm : Value) (an : Option Addr) (cdv ct : Value) (us ws : List Value), us.length = n → ws.length = 1 → bindArgs (PySem.W.fnOf name qual params body scope .none kV doc pm an cdv ct) ⟨us, [kw].zip ws⟩ = pure (ps.zip (us ++ ws))) : KBn K fd ps n [kw] (fun us ws => us ++ ws) (fun vs zs => vs ++ zs) := by
  obtain ⟨oc, od, dV, kV, doc, pm, an, cdv, ct, osl, rfl, lk, hcd, hD, hK⟩ := F.ex
  rcases hD with ⟨_, rfl⟩ | ⟨e, _⟩
  · exact ⟨fun s us ws _ l1 l2 => .of_eq (h kV doc pm an cdv ct us ws l1 l2), fun r1 r2 => r1.append r2⟩
  · exact absurd rfl e
theorem calZ_of (F : FunD K name qual params body scope [] [(kw, .non)] a fd) (hm : mg name = some (.ref a)) (hf : FnOk P w K mg base (L2.CX P w) k a fd ps (spD K f)) (h0 : ∃ ds, Vals [V.non] ds ∧ Binds K fd ps ds) (hk : KBn K fd ps n [kw] (fun us ws => us ++ ws) (fun vs zs => vs ++ zs)) : CalZ P w K mg base k name ps n kw f := by
  obtain ⟨ds, h1, h2⟩ := h0
  exact ⟨a, fd, ds, hm, F.kp, hf, h1, h2, hk⟩
end
end Kp

namespace Law
open PySem PySem.Spec PyProof.Rows L2 Kp
abbrev topS (i : Nat) : Stmt := PySem.Challenge.pw_waitmark_k27_whole_lanes_keep_each.main.body.getD i (.Pass ⟨0, 0, 0, 0⟩)
abbrev s_is_whole : Stmt := topS 9
abbrev s_pass_late : Stmt := topS 24
abbrev s_renew_share : Stmt := topS 35
abbrev s_come_share : Stmt := topS 36
abbrev s_pass_share : Stmt := topS 37
abbrev s_law_pot : Stmt := topS 69
abbrev s_law_take : Stmt := topS 70
abbrev s_is_within : Stmt := topS 10
abbrev s_root : Stmt := topS 15
abbrev s_come_by : Stmt := topS 45
abbrev s_renew_by : Stmt := topS 46
abbrev s_pass_by : Stmt := topS 47
abbrev s_check_number : Stmt := topS 11
abbrev s_is_late : Stmt := topS 20
abbrev s_fits_late : Stmt := topS 22
abbrev s_is_share : Stmt := topS 32
abbrev s_fits_share : Stmt := topS 34
abbrev s_gap : Stmt := topS 16
abbrev s_check_late : Stmt := topS 25
abbrev s_check_share : Stmt := topS 38
abbrev s_is_rule : Stmt := topS 40
abbrev s_fits_memory : Stmt := topS 43
abbrev s_late_first : Stmt := topS 21
abbrev s_look_late : Stmt := topS 23
abbrev s_share_first : Stmt := topS 33
abbrev s_check_rule : Stmt := topS 42
abbrev s_first_memory : Stmt := topS 41
abbrev s_look_at : Stmt := topS 44
structure Txt (mg : Str → Option Value) : Prop where
  f_abs : mg "abs" = none
  f_all : mg "all" = none
  f_bool : mg "bool" = none
  f_enumerate : mg "enumerate" = none
  f_int : mg "int" = none
  f_isinstance : mg "isinstance" = none
  f_len : mg "len" = none
  f_list : mg "list" = none
  f_max : mg "max" = none
  f_min : mg "min" = none
  f_range : mg "range" = none
  f_sorted : mg "sorted" = none
  f_tuple : mg "tuple" = none
  b_isqrt : mg "isqrt" = some (.builtin "math.isqrt")
  i_MOST_FACTOR : ∃ t, mg "MOST_FACTOR" = some (.int 999 t)
  i_MOST_KEPT : ∃ t, mg "MOST_KEPT" = some (.int 8 t)
  i_MOST_LIMIT : ∃ t, mg "MOST_LIMIT" = some (.int 99 t)
  i_MOST_MARK_late : ∃ t, mg "MOST_MARK_late" = some (.int 99 t)
  i_MOST_MARK_share : ∃ t, mg "MOST_MARK_share" = some (.int 99 t)
  i_MOST_OLD : ∃ t, mg "MOST_OLD" = some (.int 99 t)
  i_MOST_PERIOD : ∃ t, mg "MOST_PERIOD" = some (.int 99 t)
  i_MOST_SIZE : ∃ t, mg "MOST_SIZE" = some (.int 9 t)
  i_MOST_SPAN_late : ∃ t, mg "MOST_SPAN_late" = some (.int 99 t)
  i_MOST_SPAN_roots : ∃ t, mg "MOST_SPAN_roots" = some (.int 99 t)
  i_MOST_WAIT : ∃ t, mg "MOST_WAIT" = some (.int 1000000 t)
  i_MOST_WEIGHT : ∃ t, mg "MOST_WEIGHT" = some (.int 9 t)
  i_WHOLE_SHARE : ∃ t, mg "WHOLE_SHARE" = some (.int 1000 t)

/-! ### the pot of draws -/
structure PotL (ds : List PyData) (B : Nat) : Prop where
  ex : ∃ a b c : Int, ds = [.int a, .int b, .int c] ∧ 0 ≤ a ∧ 0 ≤ b ∧ b < 2305843009213693951 ∧ 0 ≤ c ∧ c ≤ B
def PotAt (cs : CS) (j : Nat) (B : Nat) : Prop := ∃ ds, cs[j]? = some ds ∧ PotL ds B
/-- only the j-th cell has changed -/
def Chg (j : Nat) (cs cs' : CS) : Prop := cs'.length = cs.length ∧ ∀ i, i ≠ j → cs'[i]? = cs[i]?
theorem Chg.refl {j : Nat} {cs : CS} : Chg j cs cs := ⟨rfl, fun _ _ => rfl⟩
theorem Chg.trans {j : Nat} {a b c : CS} (h : Chg j a b) (k : Chg j b c) : Chg j a c := ⟨k.1.trans h.1, fun i hi => (k.2 i hi).trans (h.2 i hi)⟩
theorem Chg.set {j : Nat} {cs : CS} {ds : List PyData} : Chg j cs (cs.set j ds) := ⟨List.length_set, fun i hi => List.getElem?_set_ne (Ne.symm hi)⟩
theorem Chg.one {d : List PyData} {cs' : CS} (h : Chg 0 [d] cs') : ∃ d', cs' = [d'] := List.length_eq_one_iff.mp h.1
theorem Chg.cons {j : Nat} {a : List PyData} {cs cs' : CS} (h : Chg (1 + j) (a :: cs) cs') : ∃ cs2, cs' = a :: cs2 ∧ Chg j cs cs2 := by
  cases cs' with
  | nil => cases h.1
  | cons b r =>
    have h0 := h.2 0 (by omega)
    have e : b = a := Option.some.inj h0
    subst e
    refine ⟨r, rfl, by have := h.1; simpa using this, fun i hi => ?_⟩
    exact h.2 (i + 1) (by omega)
theorem PotAt.cons {j B : Nat} {a : List PyData} {cs : CS} (h : PotAt (a :: cs) (1 + j) B) : PotAt cs j B := by
  obtain ⟨ds, h1, h2⟩ := h
  rw [Nat.add_comm] at h1
  exact ⟨ds, h1, h2⟩
theorem PotAt.up {j B : Nat} {a : List PyData} {cs : CS} (h : PotAt cs j B) : PotAt (a :: cs) (1 + j) B := by
  obtain ⟨ds, h1, h2⟩ := h
  refine ⟨ds, ?_, h2⟩
  rw [Nat.add_comm]
  exact h1
theorem PotL.mono {ds : List PyData} {B C : Nat} (h : PotL ds B) (hc : B ≤ C) : PotL ds C := by
  obtain ⟨a, b, c, h1, h2, h3, h4, h5, h6⟩ := h.ex
  exact ⟨a, b, c, h1, h2, h3, h4, h5, by omega⟩
theorem PotAt.mono {j B C : Nat} {cs : CS} (h : PotAt cs j B) (hc : B ≤ C) : PotAt cs j C := by
  obtain ⟨ds, h1, h2⟩ := h
  exact ⟨ds, h1, h2.mono hc⟩

/-- is it a whole number, within -/
def isWh : PyData → Bool
  | .int _ => true
  | _ => false
def isWi (x : PyData) (lo hi : Int) : Bool := match x with
  | .int i => decide (lo ≤ i) && decide (i ≤ hi)
  | _ => false
theorem isWi_yes {i lo hi : Int} (h : lo ≤ i ∧ i ≤ hi) : isWi (.int i) lo hi = true := by
  show (decide (lo ≤ i) && decide (i ≤ hi)) = true
  rw [decide_eq_true h.1, decide_eq_true h.2] <;> rfl
/-- a share rule, its memory -/
structure Rl where
  m : Int
  p : Int
  u : Int
  t : Int
def Rl.d (r : Rl) : PyData := .tuple [.str "share", .int r.m, .int r.p, .int r.u, .int r.t]
structure Rl.Ok (r : Rl) : Prop where
  m : 1 ≤ r.m ∧ r.m ≤ 99
  p : 1 ≤ r.p ∧ r.p ≤ 99
  u : 0 ≤ r.u ∧ r.u ≤ 999
  t : 0 ≤ r.t ∧ r.t ≤ 999
structure Mm where
  ph : Int
  sh : Int
  old : Int
  tot : Int
def Mm.d (m : Mm) : PyData := .tuple [.int m.ph, .int m.sh, .int m.old, .int m.tot]
structure Mm.Ok (r : Rl) (m : Mm) : Prop where
  ph : 0 ≤ m.ph ∧ m.ph ≤ r.p - 1
  sh : 0 ≤ m.sh ∧ m.sh ≤ 1000
  old : 0 ≤ m.old ∧ m.old ≤ 99
  tot : 0 ≤ m.tot ∧ m.tot ≤ 999
/-- renewed: the share as it would be, cut -/
def near (w : Int) : Int := if 99 < w then 99 else w
def raw (r : Rl) (m : Mm) (w : Int) : Int := m.sh + r.u * (near w - r.m) + r.t * (near w - m.old)
def cut0 (s : Int) : Int := if (if 1000 < s then 1000 else s) > 0 then (if 1000 < s then 1000 else s) else 0
def renew (r : Rl) (m : Mm) (w : Int) : Mm := if 0 < m.ph then m else ⟨m.ph, cut0 (raw r m w), near w, m.tot⟩
theorem cut0_ok (s : Int) : 0 ≤ cut0 s ∧ cut0 s ≤ 1000 := by unfold cut0; split <;> split <;> omega
theorem near_ok {w : Int} (h : 0 ≤ w) : 0 ≤ near w ∧ near w ≤ 99 := by unfold near; split <;> omega
theorem renew_ok {r : Rl} {m : Mm} {w : Int} (h : m.Ok r) (hw : 0 ≤ w) : (renew r m w).Ok r := by
  unfold renew
  split
  · exact h
  · exact ⟨h.ph, cut0_ok _, near_ok hw, h.tot⟩
/-- one comes in -/
def come (m : Mm) : Mm := if 1000 ≤ m.tot + m.sh then { m with tot := m.tot + m.sh - 1000 } else { m with tot := m.tot + m.sh }
def hit (m : Mm) : Bool := decide (1000 ≤ m.tot + m.sh)
theorem come_ok {r : Rl} {m : Mm} (h : m.Ok r) : (come m).Ok r := by
  have h2 := h.sh
  have h3 := h.tot
  unfold come
  split
  · exact ⟨h.ph, h.sh, h.old, by show 0 ≤ m.tot + m.sh - 1000 ∧ m.tot + m.sh - 1000 ≤ 999; omega⟩
  · exact ⟨h.ph, h.sh, h.old, by show 0 ≤ m.tot + m.sh ∧ m.tot + m.sh ≤ 999; omega⟩
/-- a tick passes -/
def pass (r : Rl) (m : Mm) : Mm := { m with ph := (if m.ph = 0 then r.p else m.ph) - 1 }
theorem pass_ok {r : Rl} {m : Mm} (hr : r.Ok) (h : m.Ok r) : (pass r m).Ok r := by
  have h1 := h.ph
  have h2 := hr.p
  refine ⟨?_, h.sh, h.old, h.tot⟩
  show 0 ≤ (if m.ph = 0 then r.p else m.ph) - 1 ∧ (if m.ph = 0 then r.p else m.ph) - 1 ≤ r.p - 1
  split <;> omega
/-- so many come in: the memory behind, which of them are struck -/
def comeN (m : Mm) : Nat → Mm
  | 0 => m
  | n + 1 => come (comeN m n)
def hits (m : Mm) : Nat → List PyData
  | 0 => []
  | n + 1 => hits m n ++ (if hit (comeN m n) = true then [.int n] else [])
theorem comeN_ok {r : Rl} {m : Mm} (h : m.Ok r) : ∀ n, (comeN m n).Ok r
  | 0 => h
  | n + 1 => come_ok (comeN_ok h n)
theorem hits_len (m : Mm) : ∀ n, (hits m n).length ≤ n
  | 0 => Nat.le_refl _
  | n + 1 => by
    unfold hits
    rw [List.length_append]
    have := hits_len m n
    split
    · simp; omega
    · simp; omega

structure Lr where
  m : Int
  sp : Int
def Lr.d (r : Lr) : PyData := .tuple [.str "late", .int r.m, .int r.sp]
structure Lr.Ok (r : Lr) : Prop where
  m : 1 ≤ r.m ∧ r.m ≤ 99
  sp : 1 ≤ r.sp ∧ r.sp ≤ 99
/-- a number or None -/
def oD : Option Int → PyData
  | none => .none
  | some i => .int i
structure Lm where
  age : Option Int
  left : Option Int
  cnt : Int
def Lm.d (m : Lm) : PyData := .tuple [oD m.age, oD m.left, .int m.cnt]
structure Lm.Ok (r : Lr) (m : Lm) : Prop where
  cnt : 0 ≤ m.cnt ∧ m.cnt ≤ r.sp * r.sp
  age : ∀ a, m.age = some a → 0 ≤ a ∧ a ≤ r.sp
  left : ∀ l, m.left = some l → m.age = some r.sp ∧ 0 ≤ l ∧ l ≤ r.sp
def gapI (sp c : Int) : Int := ((Float64.isqrt (sp * sp / c).toNat : Nat) : Int)
theorem sq_ok {sp : Int} (h : 1 ≤ sp ∧ sp ≤ 99) : 1 ≤ sp * sp ∧ sp * sp ≤ 9801 := by
  have a : 1 * 1 ≤ sp * sp := Int.mul_le_mul h.1 h.1 (by decide) (by omega)
  have b : sp * sp ≤ 99 * 99 := Int.mul_le_mul h.2 h.2 (by omega) (by decide)
  omega
theorem div_in {a c : Int} (ha : 0 ≤ a) (hc : 1 ≤ c) : 0 ≤ a / c ∧ a / c ≤ a := ⟨Int.ediv_nonneg ha (by omega), Int.ediv_le_self _ ha⟩
theorem gapI_ok {sp c : Int} (h : 1 ≤ sp ∧ sp ≤ 99) (hc : 1 ≤ c) : 0 ≤ gapI sp c ∧ gapI sp c ≤ sp := by
  obtain ⟨s1, s2⟩ := sq_ok h
  obtain ⟨d1, d2⟩ := div_in (a := sp * sp) (by omega) hc
  obtain ⟨i1, -⟩ := isq_small (sp * sp / c).toNat (by omega)
  unfold gapI
  refine ⟨by omega, ?_⟩
  generalize hz : Float64.isqrt (sp * sp / c).toNat = z at *
  rcases Int.lt_or_le sp (z : Int) with q | q
  · have e : (sp + 1) * (sp + 1) ≤ (z : Int) * z := Int.mul_le_mul (by omega) (by omega) (by omega) (by omega)
    have e2 : (sp + 1) * (sp + 1) = sp * sp + sp + sp + 1 := by rw [Int.mul_add, Int.add_mul, Int.mul_one, Int.one_mul]; omega
    have e3 : ((z * z : Nat) : Int) = (z : Int) * z := Int.natCast_mul z z
    omega
  · exact q
/-- a head of a wait is looked at -/
def look (r : Lr) (m : Lm) (w : Int) (al : Bool) : Lm × Bool := if w < r.m ∨ al = true then (⟨none, none, m.cnt⟩, false) else match m.age with
  | none => (⟨some 0, none, m.cnt⟩, false)
  | some a => if a < r.sp then (m, false) else match m.left with
    | none => (⟨some r.sp, some (gapI r.sp (m.cnt / 2 + 1)), m.cnt / 2 + 1⟩, true)
    | some l => if 0 < l then (m, false) else (⟨some r.sp, some (gapI r.sp (if r.sp * r.sp < m.cnt + 1 then r.sp * r.sp else m.cnt + 1)), (if r.sp * r.sp < m.cnt + 1 then r.sp * r.sp else m.cnt + 1)⟩, true)
theorem look_ok {r : Lr} {m : Lm} {w : Int} {al : Bool} (hr : r.Ok) (h : m.Ok r) : (look r m w al).1.Ok r := by
  have s := sq_ok hr.sp
  have c := h.cnt
  have hs := hr.sp
  unfold look
  split
  · exact ⟨c, nofun, nofun⟩
  · split
    · refine ⟨c, ?_, nofun⟩
      rintro a ⟨⟩
      omega
    · split
      · exact h
      · split
        · refine ⟨by show 0 ≤ m.cnt / 2 + 1 ∧ m.cnt / 2 + 1 ≤ r.sp * r.sp; omega, ?_, ?_⟩
          · rintro a ⟨⟩; omega
          · rintro l ⟨⟩; exact ⟨rfl, gapI_ok hs (by omega)⟩
        · split
          · exact h
          · refine ⟨?_, ?_, ?_⟩
            · show 0 ≤ (if r.sp * r.sp < m.cnt + 1 then r.sp * r.sp else m.cnt + 1) ∧ (if r.sp * r.sp < m.cnt + 1 then r.sp * r.sp else m.cnt + 1) ≤ r.sp * r.sp
              split <;> omega
            · rintro a ⟨⟩; omega
            · rintro l ⟨⟩
              refine ⟨rfl, gapI_ok hs ?_⟩
              split <;> omega
/-- a tick passes -/
def lpass (r : Lr) (m : Lm) : Lm := ⟨m.age.map fun a => if r.sp < a + 1 then r.sp else a + 1, m.left.map fun l => if 0 > l - 1 then 0 else l - 1, m.cnt⟩
theorem lpass_ok {r : Lr} {m : Lm} (hr : r.Ok) (h : m.Ok r) : (lpass r m).Ok r := by
  have hs := hr.sp
  refine ⟨h.cnt, ?_, ?_⟩
  · intro a ha
    unfold lpass at ha
    cases q : m.age with
    | none => rw [q] at ha; cases ha
    | some b =>
      rw [q] at ha
      cases ha
      have := h.age b q
      show 0 ≤ (if r.sp < b + 1 then r.sp else b + 1) ∧ (if r.sp < b + 1 then r.sp else b + 1) ≤ r.sp
      split <;> omega
  · intro l hl
    unfold lpass at hl
    cases q : m.left with
    | none => rw [q] at hl; cases hl
    | some b =>
      rw [q] at hl
      cases hl
      obtain ⟨z1, z2, z3⟩ := h.left b q
      refine ⟨?_, by show 0 ≤ (if 0 > b - 1 then 0 else b - 1); split <;> omega, by show (if 0 > b - 1 then 0 else b - 1) ≤ r.sp; split <;> omega⟩
      show m.age.map _ = _
      rw [z1]
      show some (if r.sp < r.sp + 1 then r.sp else r.sp + 1) = some r.sp
      rw [if_pos (by omega)]

/-- the ticks in which a head that stays late is struck -/
def ltk (r : Lr) : Nat → Int
  | 0 => r.sp
  | n + 1 => ltk r n + gapI r.sp (if r.sp * r.sp < ((n + 1 : Nat) : Int) then r.sp * r.sp else ((n + 1 : Nat) : Int))
def lts (r : Lr) : Nat → List PyData
  | 0 => []
  | n + 1 => lts r n ++ [.int (ltk r n)]
theorem lts_len (r : Lr) : ∀ n, (lts r n).length = n
  | 0 => rfl
  | n + 1 => by
    show (lts r n ++ [_]).length = n + 1
    rw [List.length_append, lts_len r n]; rfl

/-! ### rules of any kind, their memories -/
inductive Ru where
  | none | late (r : Lr) | share (r : Rl)
inductive Me where
  | none | late (m : Lm) | share (m : Mm)
def Ru.d : Ru → PyData
  | .none => .tuple [.str "none"]
  | .late r => r.d
  | .share r => r.d
def Ru.Ok : Ru → Prop
  | .none => True
  | .late r => r.Ok
  | .share r => r.Ok
def Lm.l (m : Lm) : List PyData := [oD m.age, oD m.left, .int m.cnt]
def Mm.l (m : Mm) : List PyData := [.int m.ph, .int m.sh, .int m.old, .int m.tot]
def Me.l : Me → List PyData
  | .none => []
  | .late m => m.l
  | .share m => m.l
def Me.d (M : Me) : PyData := .tuple M.l
inductive RM : Ru → Me → Prop
  | none : RM .none .none
  | late {r : Lr} {m : Lm} : r.Ok → m.Ok r → RM (.late r) (.late m)
  | share {r : Rl} {m : Mm} : r.Ok → m.Ok r → RM (.share r) (.share m)
theorem RM.ok {R : Ru} {M : Me} (h : RM R M) : R.Ok := by
  cases h with
  | none => trivial
  | late hr hm => exact hr
  | share hr hm => exact hr
def Ru.isL : Ru → Bool
  | .late _ => true
  | _ => false
def Ru.isS : Ru → Bool
  | .share _ => true
  | _ => false
def firstM : Ru → Me
  | .none => .none
  | .late _ => .late ⟨none, none, 0⟩
  | .share _ => .share ⟨0, 0, 0, 0⟩
theorem firstM_ok {R : Ru} (h : R.Ok) : RM R (firstM R) := by
  cases R with
  | none => exact .none
  | late r =>
    have hr : r.Ok := h
    have s := sq_ok hr.sp
    exact .late hr ⟨⟨by decide, by show (0 : Int) ≤ r.sp * r.sp; omega⟩, nofun, nofun⟩
  | share r =>
    have hr : r.Ok := h
    have p := hr.p
    exact .share hr ⟨⟨by decide, by show (0 : Int) ≤ r.p - 1; omega⟩, by decide, by decide, by decide⟩
def lookR (R : Ru) (M : Me) (w : Int) (al : Bool) : Me × Bool := match R, M with
  | .late r, .late m => (.late (look r m w al).1, (look r m w al).2)
  | _, M => (M, false)
def comeR (M : Me) : Me × Bool := match M with
  | .share m => (.share (come m), hit m)
  | M => (M, false)
def renewR (R : Ru) (M : Me) (w : Int) : Me := match R, M with
  | .share r, .share m => .share (renew r m w)
  | _, M => M
def passR (R : Ru) (M : Me) : Me := match R, M with
  | .late r, .late m => .late (lpass r m)
  | .share r, .share m => .share (pass r m)
  | _, M => M
theorem lookR_ok {R : Ru} {M : Me} {w : Int} {al : Bool} (h : RM R M) : RM R (lookR R M w al).1 := by
  cases h with
  | none => exact .none
  | late hr hm => exact .late hr (look_ok hr hm)
  | share hr hm => exact .share hr hm
theorem comeR_ok {R : Ru} {M : Me} (h : RM R M) : RM R (comeR M).1 := by
  cases h with
  | none => exact .none
  | late hr hm => exact .late hr hm
  | share hr hm => exact .share hr (come_ok hm)
theorem renewR_ok {R : Ru} {M : Me} {w : Int} (hw : 0 ≤ w) (h : RM R M) : RM R (renewR R M w) := by
  cases h with
  | none => exact .none
  | late hr hm => exact .late hr hm
  | share hr hm => exact .share hr (renew_ok hm hw)
theorem passR_ok {R : Ru} {M : Me} (h : RM R M) : RM R (passR R M) := by
  cases h with
  | none => exact .none
  | late hr hm => exact .late hr (lpass_ok hr hm)
  | share hr hm => exact .share hr (pass_ok hr hm)
theorem sLL : PyData.eqv (.str "late") (.str "late") = true := by decide +kernel
theorem sLS : PyData.eqv (.str "late") (.str "share") = false := by decide +kernel
theorem sSL : PyData.eqv (.str "share") (.str "late") = false := by decide +kernel
theorem sSS : PyData.eqv (.str "share") (.str "share") = true := by decide +kernel
theorem sNL : PyData.eqv (.str "none") (.str "late") = false := by decide +kernel
theorem sNS : PyData.eqv (.str "none") (.str "share") = false := by decide +kernel
theorem sNN : PyData.eqv (.str "none") (.str "none") = true := by decide +kernel
theorem sLN : PyData.eqv (.str "late") (.str "none") = false := by decide +kernel
theorem sSN : PyData.eqv (.str "share") (.str "none") = false := by decide +kernel
theorem shL : SeqAt.shaped (.str "late") = true := by decide +kernel
theorem shS : SeqAt.shaped (.str "share") = true := by decide +kernel
theorem shN : SeqAt.shaped (.str "none") = true := by decide +kernel
section
variable {P : Program} {w : World} {K : Frag} {mg : Str → Option Value} {base : Heap}
/-! is_whole -/
def f_is_whole : FD := fun ss cs _ Q => ∃ x, ss = [.d x] ∧ Q (.bool (isWh x)) cs
theorem sc_is_whole : FnScope ["thing"] ["thing"] (defScope s_is_whole) := ⟨rfl, rfl, rfl, by decide +kernel, rfl, by decide +kernel, by decide +kernel⟩
theorem ok_is_whole (T : Txt mg) {a : Addr} {fd : FuncData} (F : FunD K "is_whole" "is_whole" (defArgs s_is_whole) (defBody s_is_whole) (defScope s_is_whole) [] [] a fd) (hb : Binds K fd ["thing"] []) (hm : mg "is_whole" = some (.ref a)) : Cal P w K mg base 1 "is_whole" ["thing"] f_is_whole := by
  refine cal_of F sc_is_whole hb hm (fun ss cs Ed Q h => ?_) (fun cdv A outer s H E hr => (q_sone (q_ret (q_vand (q_isi "int" (q_var 0) T.f_isinstance T.f_int (by decide +kernel)) (q_v1 (q_vnot (q_isi "bool" (q_var 0) T.f_isinstance T.f_bool (by decide +kernel)))))))) ?_
  · obtain ⟨_, rfl, _⟩ := h; rfl
  intro ss cs Ed Qd h
  obtain ⟨x, rfl, h⟩ := h
  cases x with
  | int i => exact ⟨true, rfl, false, rfl, h⟩
  | bool b => exact ⟨true, rfl, true, rfl, h⟩
  | _ => exact ⟨false, rfl, h⟩

/-! pass_late -/
def f_pass_late : FD := fun ss cs _ Q => ∃ (r : Lr) (m : Lm), ss = [.d r.d, .d m.d] ∧ Q (lpass r m).d cs
theorem sc_pass_late : FnScope ["rule", "memory", "age", "left", "count"] ["rule", "memory"] (defScope s_pass_late) := ⟨rfl, rfl, rfl, by decide +kernel, rfl, by decide +kernel, by decide +kernel⟩
theorem ok_pass_late (T : Txt mg) {a : Addr} {fd : FuncData} (F : FunD K "pass_late" "pass_late" (defArgs s_pass_late) (defBody s_pass_late) (defScope s_pass_late) [] [] a fd) (hb : Binds K fd ["rule", "memory"] []) (hm : mg "pass_late" = some (.ref a)) : Cal P w K mg base 1 "pass_late" ["rule", "memory"] f_pass_late := by
  refine cal_of F sc_pass_late hb hm (fun ss cs Ed Q h => ?_) (fun cdv A outer s H E hr => (q_scons (q_unp [2, 3, 4] rfl (pgs_cons (pg_name (i := 2) sc_pass_late.nd rfl (by first | exact Or.inl rfl | exact Or.inr rfl)) (pgs_cons (pg_name (i := 3) sc_pass_late.nd rfl (by first | exact Or.inl rfl | exact Or.inr rfl)) (pgs_cons (pg_name (i := 4) sc_pass_late.nd rfl (by first | exact Or.inl rfl | exact Or.inr rfl)) pgs_nil))) (q_var 1))
      (q_scons (q_ifS (q_tcmp op_notN sr_notN (q_var 2) q_non)
      (q_sone (q_set 2 sc_pass_late.nd (q_cb (call_min2 rfl) sc_min2 T.f_min (by decide +kernel) (q_cons (q_bin op_plus sr_plus (q_var 2) q_int) (q_cons (q_ixV 0 (pv 0) q_int) q_nil)))))
      q_snil)
      (q_scons (q_ifS (q_tcmp op_notN sr_notN (q_var 3) q_non)
      (q_sone (q_set 3 sc_pass_late.nd (q_cb (call_max2 rfl) sc_max2 T.f_max (by decide +kernel) (q_cons (q_bin op_sub sr_sub (q_var 3) q_int) (q_cons q_int q_nil)))))
      q_snil)
      (q_sone (q_ret (q_tup (q_consV 2 (pv 2) (q_consV 3 (pv 3) (q_consV 4 (pv 4) q_nil)))))))))) ?_
  · obtain ⟨_, _, rfl, _⟩ := h; rfl
  intro ss cs Ed Qd h
  obtain ⟨r, ⟨age, left, cnt⟩, rfl, h⟩ := h
  have l3 := le_line (show 3 ≤ 100000 by decide)
  refine ⟨_, rfl, ?_⟩
  cases age with
  | none =>
    cases left with
    | none => exact ⟨l3, h⟩
    | some l => exact ⟨l3, h⟩
  | some a =>
    cases left with
    | none => exact ⟨rfl, _, _, rfl, rfl, l3, h⟩
    | some l => exact ⟨rfl, _, _, rfl, rfl, l3, h⟩

/-! renew_share -/
def f_renew_share : FD := fun ss cs _ Q => ∃ (r : Rl) (m : Mm) (w : Int), ss = [.d r.d, .d m.d, .d (.int w)] ∧ r.Ok ∧ m.Ok r ∧ (0 ≤ w ∧ w ≤ 1000000) ∧ Q (renew r m w).d cs
theorem sc_renew_share : FnScope ["rule", "memory", "wait", "phase", "share", "old", "total", "mark", "up", "turn", "told"] ["rule", "memory", "wait"] (defScope s_renew_share) := ⟨rfl, rfl, rfl, by decide +kernel, rfl, by decide +kernel, by decide +kernel⟩
theorem ok_renew_share (T : Txt mg) {a : Addr} {fd : FuncData} (F : FunD K "renew_share" "renew_share" (defArgs s_renew_share) (defBody s_renew_share) (defScope s_renew_share) [] [] a fd) (hb : Binds K fd ["rule", "memory", "wait"] []) (hm : mg "renew_share" = some (.ref a)) : Cal P w K mg base 1 "renew_share" ["rule", "memory", "wait"] f_renew_share := by
  refine cal_of F sc_renew_share hb hm (fun ss cs Ed Q h => ?_) (fun cdv A outer s H E hr => (q_scons (q_unp [3, 4, 5, 6] rfl (pgs_cons (pg_name (i := 3) sc_renew_share.nd rfl (by first | exact Or.inl rfl | exact Or.inr rfl)) (pgs_cons (pg_name (i := 4) sc_renew_share.nd rfl (by first | exact Or.inl rfl | exact Or.inr rfl)) (pgs_cons (pg_name (i := 5) sc_renew_share.nd rfl (by first | exact Or.inl rfl | exact Or.inr rfl)) (pgs_cons (pg_name (i := 6) sc_renew_share.nd rfl (by first | exact Or.inl rfl | exact Or.inr rfl)) pgs_nil)))) (q_var 1))
      (q_scons (q_ifS (q_tcmp op_gt sr_gt (q_var 3) q_int)
      (q_sone (q_retV 1 (pv 1)))
      q_snil)
      (q_scons (q_par3 (i := 7) (j := 8) (l := 9) rfl sc_renew_share.nd (q_cons (q_ixV 0 (pv 0) q_int) (q_cons (q_ixV 0 (pv 0) q_int) (q_cons (q_ixV 0 (pv 0) q_int) q_nil))))
      (q_scons (q_set 10 sc_renew_share.nd (q_cb (call_min2 rfl) sc_min2 T.f_min (by decide +kernel) (q_consV 2 (pv 2) (q_cons (q_globI T.i_MOST_OLD) q_nil))))
      (q_scons (q_set 4 sc_renew_share.nd (q_bin op_plus sr_plus (q_bin op_plus sr_plus (q_var 4) (q_bin op_times sr_times (q_var 8) (q_bin op_sub sr_sub (q_var 10) (q_var 7)))) (q_bin op_times sr_times (q_var 9) (q_bin op_sub sr_sub (q_var 10) (q_var 5)))))
      (q_sone (q_ret (q_tup (q_consV 3 (pv 3) (q_cons (q_cb (call_max2 rfl) sc_max2 T.f_max (by decide +kernel) (q_cons q_int (q_cons (q_cb (call_min2 rfl) sc_min2 T.f_min (by decide +kernel) (q_consV 4 (pv 4) (q_cons (q_globI T.i_WHOLE_SHARE) q_nil))) q_nil))) (q_consV 10 (pv 10) (q_consV 6 (pv 6) q_nil))))))))))))) ?_
  · obtain ⟨_, _, _, rfl, _⟩ := h; rfl
  intro ss cs Ed Qd h
  obtain ⟨r, m, w, rfl, hr, hm, hw, h⟩ := h
  refine ⟨_, rfl, ?_⟩
  have h1 := hr.u
  have h2 := hr.t
  unfold renew at h
  refine ifD2 (fun c => ?_) fun c => ?_
  · rw [if_pos c] at h
    exact h
  · rw [if_neg c] at h
    refine ⟨rfl, _, _, rfl, rfl, rfl, _, _, rfl, rfl, rfl, _, _, rfl, rfl, _, rfl, ?_⟩
    refine ⟨.inl ⟨by omega, by omega⟩, .inl ⟨by omega, by omega⟩, le_line (show 4 ≤ 100000 by decide), ?_⟩
    exact h

/-! come_share -/
def f_come_share : FD := fun ss cs _ Q => ∃ (r : Rl) (m : Mm), ss = [.d m.d] ∧ m.Ok r ∧ Q (.tuple [(come m).d, .bool (hit m)]) cs
theorem sc_come_share : FnScope ["memory", "phase", "share", "old", "total"] ["memory"] (defScope s_come_share) := ⟨rfl, rfl, rfl, by decide +kernel, rfl, by decide +kernel, by decide +kernel⟩
theorem ok_come_share (T : Txt mg) {a : Addr} {fd : FuncData} (F : FunD K "come_share" "come_share" (defArgs s_come_share) (defBody s_come_share) (defScope s_come_share) [] [] a fd) (hb : Binds K fd ["memory"] []) (hm : mg "come_share" = some (.ref a)) : Cal P w K mg base 1 "come_share" ["memory"] f_come_share := by
  refine cal_of F sc_come_share hb hm (fun ss cs Ed Q h => ?_) (fun cdv A outer s H E hr => (q_scons (q_unp [1, 2, 3, 4] rfl (pgs_cons (pg_name (i := 1) sc_come_share.nd rfl (by first | exact Or.inl rfl | exact Or.inr rfl)) (pgs_cons (pg_name (i := 2) sc_come_share.nd rfl (by first | exact Or.inl rfl | exact Or.inr rfl)) (pgs_cons (pg_name (i := 3) sc_come_share.nd rfl (by first | exact Or.inl rfl | exact Or.inr rfl)) (pgs_cons (pg_name (i := 4) sc_come_share.nd rfl (by first | exact Or.inl rfl | exact Or.inr rfl)) pgs_nil)))) (q_var 0))
      (q_scons (q_set 4 sc_come_share.nd (q_bin op_plus sr_plus (q_var 4) (q_var 2)))
      (q_scons (q_ifS (q_tcmp op_ge sr_ge (q_var 4) (q_globI T.i_WHOLE_SHARE))
      (q_sone (q_ret (q_tup (q_cons (q_tup (q_consV 1 (pv 1) (q_consV 2 (pv 2) (q_consV 3 (pv 3) (q_cons (q_bin op_sub sr_sub (q_var 4) (q_globI T.i_WHOLE_SHARE)) q_nil))))) (q_cons q_bl q_nil)))))
      q_snil)
      (q_sone (q_ret (q_tup (q_cons (q_tup (q_consV 1 (pv 1) (q_consV 2 (pv 2) (q_consV 3 (pv 3) (q_consV 4 (pv 4) q_nil))))) (q_cons q_bl q_nil))))))))) ?_
  · obtain ⟨_, _, rfl, _⟩ := h; rfl
  intro ss cs Ed Qd h
  obtain ⟨r, m, rfl, hm, h⟩ := h
  refine ⟨_, rfl, ?_⟩
  unfold come hit at h
  refine ifD2 (fun c => ?_) fun c => ?_
  · have c' : 1000 ≤ m.tot + m.sh := c
    rw [if_pos c', decide_eq_true c'] at h
    exact ⟨le_line (show 4 ≤ 100000 by decide), le_line (show 2 ≤ 100000 by decide), h⟩
  · have c' : ¬ 1000 ≤ m.tot + m.sh := c
    rw [if_neg c', decide_eq_false c'] at h
    exact ⟨le_line (show 4 ≤ 100000 by decide), le_line (show 2 ≤ 100000 by decide), h⟩

/-! pass_share -/
def f_pass_share : FD := fun ss cs _ Q => ∃ (r : Rl) (m : Mm), ss = [.d r.d, .d m.d] ∧ Q (pass r m).d cs
theorem sc_pass_share : FnScope ["rule", "memory", "phase", "share", "old", "total"] ["rule", "memory"] (defScope s_pass_share) := ⟨rfl, rfl, rfl, by decide +kernel, rfl, by decide +kernel, by decide +kernel⟩
theorem ok_pass_share (T : Txt mg) {a : Addr} {fd : FuncData} (F : FunD K "pass_share" "pass_share" (defArgs s_pass_share) (defBody s_pass_share) (defScope s_pass_share) [] [] a fd) (hb : Binds K fd ["rule", "memory"] []) (hm : mg "pass_share" = some (.ref a)) : Cal P w K mg base 1 "pass_share" ["rule", "memory"] f_pass_share := by
  refine cal_of F sc_pass_share hb hm (fun ss cs Ed Q h => ?_) (fun cdv A outer s H E hr => (q_scons (q_unp [2, 3, 4, 5] rfl (pgs_cons (pg_name (i := 2) sc_pass_share.nd rfl (by first | exact Or.inl rfl | exact Or.inr rfl)) (pgs_cons (pg_name (i := 3) sc_pass_share.nd rfl (by first | exact Or.inl rfl | exact Or.inr rfl)) (pgs_cons (pg_name (i := 4) sc_pass_share.nd rfl (by first | exact Or.inl rfl | exact Or.inr rfl)) (pgs_cons (pg_name (i := 5) sc_pass_share.nd rfl (by first | exact Or.inl rfl | exact Or.inr rfl)) pgs_nil)))) (q_var 1))
      (q_scons (q_ifS (q_tcmp (op_eqD hr.units) sr_eq (q_var 2) q_int)
      (q_sone (q_set 2 sc_pass_share.nd (q_ixV 0 (pv 0) q_int)))
      q_snil)
      (q_sone (q_ret (q_tup (q_cons (q_bin op_sub sr_sub (q_var 2) q_int) (q_consV 3 (pv 3) (q_consV 4 (pv 4) (q_consV 5 (pv 5) q_nil)))))))))) ?_
  · obtain ⟨_, _, rfl, _⟩ := h; rfl
  intro ss cs Ed Qd h
  obtain ⟨r, m, rfl, h⟩ := h
  refine ⟨_, rfl, rfl, rfl, ?_⟩
  unfold pass at h
  refine if2 (fun c => ?_) fun c => ?_
  · rw [eqv_int] at c
    rw [if_pos (dT' c)] at h
    exact ⟨rfl, _, _, rfl, rfl, le_line (show 4 ≤ 100000 by decide), h⟩
  · rw [eqv_int] at c
    rw [if_neg (dF' c)] at h
    exact ⟨le_line (show 4 ≤ 100000 by decide), h⟩

/-! _law_pot -/
def f_law_pot : FN := fun ss cs _ Q => ∃ (s : Sl) (ns : List Int) (k : Int), ss = [s, .d (.int k)] ∧ s ≠ .no ∧ itemsOf cs (some s) = some (ns.map .int) ∧ (0 ≤ k ∧ k ≤ 1000) ∧ ∀ ds, PotL ds 0 → Q ds cs
theorem sc_law_pot : FnScope ["script", "k", "cell", "mixed"] ["script", "k"] (defScope s_law_pot) := ⟨rfl, rfl, rfl, by decide +kernel, rfl, by decide +kernel, by decide +kernel⟩
theorem ok_law_pot (T : Txt mg) {a : Addr} {fd : FuncData} (F : FunD K "_law_pot" "_law_pot" (defArgs s_law_pot) (defBody s_law_pot) (defScope s_law_pot) [] [] a fd) (hb : Binds K fd ["script", "k"] []) (hm : mg "_law_pot" = some (.ref a)) : CalN P w K mg base 1 "_law_pot" ["script", "k"] f_law_pot := by
  refine calN_of F sc_law_pot hb hm (fun ss cs Ed Q h => ?_) (fun cdv A outer s H E hr => (q_scons (q_set 2 sc_law_pot.nd q_int)
      (q_scons (q_ifS (q_tcmp op_lt sr_lt (q_var 1) (q_lenV 0 (pv 0) T.f_len))
      (q_sone (q_set 2 sc_law_pot.nd (q_bin op_mod sr_mod (q_cb call_abs sc_abs T.f_abs (by decide +kernel) (q_cons (q_ixV 0 (pv 0) (q_var 1)) q_nil)) (q_bin op_powW sr_powW (q_bin op_powW sr_powW q_int q_int) q_int))))
      q_snil)
      (q_scons (q_set 3 sc_law_pot.nd (q_bin op_mod sr_mod (q_bin op_powW sr_powW (q_bin op_plus sr_plus (q_bin op_plus sr_plus (q_bin op_mod sr_mod (q_var 2) q_int) (q_bin op_times sr_times q_int (q_var 1))) q_int) q_int) q_int))
      (q_sone (q_retL (q_nlst (q_cons (q_bin op_times sr_times (q_var 2) (q_ct call_int1 sc_int T.f_int (by decide +kernel) (q_cons (q_cmp op_ge sr_ge (q_var 2) (q_bin op_powW sr_powW q_int q_int)) q_nil))) (q_consV 3 (pv 3) (q_cons q_int q_nil)))))))))) ?_
  · obtain ⟨_, _, _, rfl, _⟩ := h; rfl
  intro ss cs Ed Qd h
  obtain ⟨s, ns, k, rfl, hs, hi, hk, h⟩ := h
  -- behind the cell: mixed, the pot
  have fin : ∀ cell : Int, 0 ≤ cell → dSeq (dSet 3 (dOp (dI (fun _ j => 0 < j) fun i j => .int (i % j)) (dOp (dI CPowW fun i j => .int (i ^ j.toNat)) (dOp dPlus (dOp dPlus (dOp (dI (fun _ j => 0 < j) fun i j => .int (i % j)) (dVar 2) (dC (.int 2147483629))) (dOp dTimes (dC (.int 7919)) (dVar 1))) (dC (.int 1))) (dC (.int 5))) (dC (.int 2305843009213693951))))
      (dRetL (dNlst (dCons (dOp dTimes (dVar 2) (dCB cInt (dCons (dOp (dI0 fun i j => .bool (decide (j ≤ i))) (dVar 2) (dOp (dI CPowW fun i j => .int (i ^ j.toNat)) (dC (.int 10)) (dC (.int 18)))) dNil))) (dConsV 3 (dCons (dC (.int 0)) dNil)))))
      (DN0 (fun _ _ => False) Qd Ed) [s, .d (.int k), .d (.int cell), .no] cs := fun cell hc => by
    have h1 : 0 ≤ cell % 2147483629 := Int.emod_nonneg _ (by decide)
    have h2 : cell % 2147483629 < 2147483629 := Int.emod_lt_of_pos _ (by decide)
    have h3 : 0 ≤ (cell % 2147483629 + 7919 * k + 1) ^ (5 : Int).toNat % 2305843009213693951 := Int.emod_nonneg _ (by decide)
    have h4 : (cell % 2147483629 + 7919 * k + 1) ^ (5 : Int).toNat % 2305843009213693951 < 2305843009213693951 := Int.emod_lt_of_pos _ (by decide)
    refine ⟨(show (0 : Int) < 2147483629 by decide), .inl ⟨by decide, by decide⟩, powW_of (by omega) (by omega) (by decide) (by decide), (show (0 : Int) < 2305843009213693951 by decide), ?_⟩
    refine ⟨⟨by decide, by decide +kernel⟩, .inr ?_, le_line (show 3 ≤ 100000 by decide), ?_⟩
    · show -(2 ^ 64) < (if decide ((10 : Int) ^ (18 : Int).toNat ≤ cell) = true then (1 : Int) else 0) ∧ (if decide ((10 : Int) ^ (18 : Int).toNat ≤ cell) = true then (1 : Int) else 0) < 2 ^ 64
      split <;> exact ⟨by decide, by decide⟩
    · refine h _ ⟨⟨_, _, 0, rfl, ?_, h3, h4, by decide, by decide⟩⟩
      show 0 ≤ cell * (if decide ((10 : Int) ^ (18 : Int).toNat ≤ cell) = true then (1 : Int) else 0)
      split
      · omega
      · omega
  refine ⟨_, hi, ?_⟩
  show (if decide (k < ((ns.map PyData.int).length : Int)) = true then _ else _)
  refine ifD2 (fun hlt => ?_) fun _ => fin 0 (by decide)
  rw [List.length_map] at hlt
  have hn : k.toNat < ns.length := by omega
  have hat : atI (ns.map PyData.int) k = some (.int ns[k.toNat]) := at_data (by omega) (by rw [List.getElem?_map, List.getElem?_eq_getElem hn]; rfl)
  refine ⟨Option.isSome_iff_exists.mpr ⟨_, hi⟩, _, _, hi, hat, ⟨by decide, by decide +kernel⟩, ⟨by decide, by decide +kernel⟩, (show (0 : Int) < (10 ^ (60 : Int).toNat) ^ (14 : Int).toNat by decide +kernel), ?_⟩
  refine fin _ (Int.emod_nonneg _ ?_)
  decide +kernel

/-! _law_take -/
def f_law_take : FD := fun ss cs _ Q => ∃ (j : Nat) (n : Int) (B : Nat), ss = [.c j, .d (.int n)] ∧ PotAt cs j B ∧ B ≤ 2 ^ 40 ∧ (0 < n ∧ n < 2 ^ 200) ∧ ∀ r cs', (0 ≤ r ∧ r < n) → Chg j cs cs' → PotAt cs' j (B + 1) → Q (.int r) cs'

theorem sc_law_take : FnScope ["pot", "many", "found", "one", "other"] ["pot", "many"] (defScope s_law_take) := ⟨rfl, rfl, rfl, by decide +kernel, rfl, by decide +kernel, by decide +kernel⟩
theorem ok_law_take (T : Txt mg) {a : Addr} {fd : FuncData} (F : FunD K "_law_take" "_law_take" (defArgs s_law_take) (defBody s_law_take) (defScope s_law_take) [] [] a fd) (hb : Binds K fd ["pot", "many"] []) (hm : mg "_law_take" = some (.ref a)) : Cal P w K mg base 1 "_law_take" ["pot", "many"] f_law_take := by
  refine cal_of F sc_law_take hb hm (fun ss cs Ed Q h => ?_) (fun cdv A outer s H E hr => (q_scons (q_ifS (q_tcmp op_gt sr_gt (q_ixV 0 (pv 0) q_int) q_int)
      (q_scons (q_set 2 sc_law_take.nd (q_bin op_mod sr_mod (q_ixV 0 (pv 0) q_int) (q_var 1)))
      (q_scons (q_store 0 (pv 0) q_int (q_bin op_fdivW sr_div (q_ixV 0 (pv 0) q_int) (q_var 1)))
      (q_sone (q_retV 2 (pv 2)))))
      q_snil)
      (q_scons (q_store 0 (pv 0) q_int (q_bin op_plus sr_plus (q_ixV 0 (pv 0) q_int) q_int))
      (q_scons (q_set 3 sc_law_take.nd (q_bin op_mod sr_mod (q_bin op_powW sr_powW (q_bin op_plus sr_plus (q_ixV 0 (pv 0) q_int) (q_bin op_times sr_times q_int (q_ixV 0 (pv 0) q_int))) q_int) q_int))
      (q_scons (q_set 4 sc_law_take.nd (q_bin op_mod sr_mod (q_bin op_powW sr_powW (q_bin op_plus sr_plus (q_bin op_plus sr_plus (q_var 3) (q_bin op_mod sr_mod (q_ixV 0 (pv 0) q_int) q_int)) (q_bin op_times sr_times q_int (q_ixV 0 (pv 0) q_int))) q_int) q_int))
      (q_sone (q_ret (q_bin op_mod sr_mod (q_bin op_fdivW sr_div (q_var 4) q_int) (q_var 1))))))))) ?_
  · obtain ⟨_, _, _, rfl, _⟩ := h; rfl
  intro ss cs Ed Qd h
  obtain ⟨j, n, B, rfl, ⟨ds, hd, hp⟩, hB, hn, h⟩ := h
  obtain ⟨a, b, c, rfl, h1, h2, h3, h4, h5⟩ := hp.ex
  have hdiv : CDivW a n := wide_div hn.1 (by have := hn.2; omega) (by decide) (by decide : 200 ≤ 9000)
  refine ⟨Option.isSome_iff_exists.mpr ⟨_, hd⟩, _, _, hd, rfl, ?_⟩
  refine ifD2 (fun ha => ?_) fun ha => ?_
  · -- by its digits
    refine ⟨Option.isSome_iff_exists.mpr ⟨_, hd⟩, _, _, hd, rfl, hn.1, ?_⟩
    refine ⟨Option.isSome_iff_exists.mpr ⟨_, hd⟩, _, _, hd, rfl, hdiv, _, 0, hd, rfl, ?_⟩
    refine h _ _ ⟨Int.emod_nonneg _ (by omega), Int.emod_lt_of_pos _ hn.1⟩ Chg.set ⟨_, List.getElem?_set_self (List.getElem?_eq_some_iff.mp hd).1, ⟨_, b, c, rfl, Int.ediv_nonneg h1 (by omega), h2, h3, h4, by omega⟩⟩
  · -- mixed
    have hd2 := List.getElem?_set_self (a := [.int a, .int b, .int (c + 1)]) (List.getElem?_eq_some_iff.mp hd).1
    refine ⟨Option.isSome_iff_exists.mpr ⟨_, hd⟩, _, _, hd, rfl, _, 2, hd, rfl, ?_⟩
    refine ⟨Option.isSome_iff_exists.mpr ⟨_, hd2⟩, _, _, hd2, rfl, Option.isSome_iff_exists.mpr ⟨_, hd2⟩, _, _, hd2, rfl, .inl ⟨by decide, by decide⟩, powW_of (by omega) (by omega) (by decide) (by decide), (show (0 : Int) < 2305843009213693921 by decide), ?_⟩
    have h6 : 0 ≤ (b + 104729 * (c + 1)) ^ (3 : Int).toNat % 2305843009213693921 := Int.emod_nonneg _ (by decide)
    have h7 : (b + 104729 * (c + 1)) ^ (3 : Int).toNat % 2305843009213693921 < 2305843009213693921 := Int.emod_lt_of_pos _ (by decide)
    have h8 : 0 ≤ b % 65537 := Int.emod_nonneg _ (by decide)
    have h9 : b % 65537 < 65537 := Int.emod_lt_of_pos _ (by decide)
    refine ⟨Option.isSome_iff_exists.mpr ⟨_, hd2⟩, _, _, hd2, rfl, (show (0 : Int) < 65537 by decide), Option.isSome_iff_exists.mpr ⟨_, hd2⟩, _, _, hd2, rfl, .inl ⟨by decide, by decide⟩, powW_of (by omega) (by omega) (by decide) (by decide), (show (0 : Int) < 2305843009213693907 by decide), ?_⟩
    refine ⟨⟨by decide, by decide +kernel⟩, hn.1, ?_⟩
    exact h _ _ ⟨Int.emod_nonneg _ (by omega), Int.emod_lt_of_pos _ hn.1⟩ Chg.set ⟨_, hd2, ⟨_, b, _, rfl, h1, h2, h3, by omega, by omega⟩⟩

/-! is_within -/
def f_is_within : FD := fun ss cs _ Q => ∃ x lo hi, ss = [.d x, .d (.int lo), .d (.int hi)] ∧ Q (.bool (isWi x lo hi)) cs
theorem sc_is_within : FnScope ["thing", "low", "high"] ["thing", "low", "high"] (defScope s_is_within) := ⟨rfl, rfl, rfl, by decide +kernel, rfl, by decide +kernel, by decide +kernel⟩
theorem ok_is_within (T : Txt mg) (G_is_whole : Cal P w K mg base 1 "is_whole" ["thing"] f_is_whole) {a : Addr} {fd : FuncData} (F : FunD K "is_within" "is_within" (defArgs s_is_within) (defBody s_is_within) (defScope s_is_within) [] [] a fd) (hb : Binds K fd ["thing", "low", "high"] []) (hm : mg "is_within" = some (.ref a)) : Cal P w K mg base 2 "is_within" ["thing", "low", "high"] f_is_within := by
  refine cal_of F sc_is_within hb hm (fun ss cs Ed Q h => ?_) (fun cdv A outer s H E hr => (q_sone (q_ret (q_vand (q_call G_is_whole (hr.mono (by decide)) (passes_call (takes_of rfl rfl rfl rfl) fun _ _ _ _ h => h) (q_consV 0 (pv 0) q_nil)) (q_v1 (q_chain op_le sr_le op_le sr_le (q_var 1) (q_var 0) (q_var 2))))))) ?_
  · obtain ⟨_, _, _, rfl, _⟩ := h; rfl
  intro ss cs Ed Qd h
  obtain ⟨x, lo, hi, rfl, h⟩ := h
  refine ⟨x, rfl, ?_⟩
  cases x with
  | int i =>
    have h' : Qd (.bool (decide (lo ≤ i) && decide (i ≤ hi))) cs := h
    show (if decide (lo ≤ i) = true then Qd (.bool (decide (i ≤ hi))) cs else Qd (.bool false) cs)
    by_cases c : lo ≤ i
    · rw [decide_eq_true c] at h' ⊢
      exact h'
    · rw [decide_eq_false c] at h' ⊢
      exact h'
  | _ => exact h

/-! root -/
def f_root : FD := fun ss cs _ Q => ∃ n : Int, ss = [.d (.int n)] ∧ (0 ≤ n ∧ n < 2 ^ 64) ∧ Q (.int ((Float64.isqrt n.toNat : Nat) : Int)) cs
theorem sc_root : FnScope ["number"] ["number"] (defScope s_root) := ⟨rfl, rfl, rfl, by decide +kernel, rfl, by decide +kernel, by decide +kernel⟩
theorem ok_root (T : Txt mg) (G_is_whole : Cal P w K mg base 1 "is_whole" ["thing"] f_is_whole) {a : Addr} {fd : FuncData} (F : FunD K "root" "root" (defArgs s_root) (defBody s_root) (defScope s_root) [] [] a fd) (hb : Binds K fd ["number"] []) (hm : mg "root" = some (.ref a)) : Cal P w K mg base 2 "root" ["number"] f_root := by
  refine cal_of F sc_root hb hm (fun ss cs Ed Q h => ?_) (fun cdv A outer s H E hr => (q_scons (q_ifS (q_w (q_or (q_not (q_tv (q_call G_is_whole (hr.mono (by decide)) (passes_call (takes_of rfl rfl rfl rfl) fun _ _ _ _ h => h) (q_consV 0 (pv 0) q_nil)))) (q_or1 (q_tcmp op_lt sr_lt (q_var 0) q_int))))
      (q_sone q_never)
      q_snil)
      (q_sone (q_ret (q_isq T.b_isqrt (q_consV 0 (pv 0) q_nil)))))) ?_
  · obtain ⟨_, rfl, _⟩ := h; rfl
  intro ss cs Ed Qd h
  obtain ⟨n, rfl, hn, h⟩ := h
  refine ⟨.int n, rfl, ?_⟩
  exact ifDF (by omega) ⟨hn.1, hn.2, h⟩

/-! come_by -/
def f_come_by : FD := fun ss cs _ Q => ∃ (R : Ru) (M : Me), ss = [.d R.d, .d M.d] ∧ RM R M ∧ Q (.tuple [(comeR M).1.d, .bool (comeR M).2]) cs
theorem sc_come_by : FnScope ["rule", "memory"] ["rule", "memory"] (defScope s_come_by) := ⟨rfl, rfl, rfl, by decide +kernel, rfl, by decide +kernel, by decide +kernel⟩
theorem ok_come_by (T : Txt mg) (G_come_share : Cal P w K mg base 1 "come_share" ["memory"] f_come_share) {a : Addr} {fd : FuncData} (F : FunD K "come_by" "come_by" (defArgs s_come_by) (defBody s_come_by) (defScope s_come_by) [] [] a fd) (hb : Binds K fd ["rule", "memory"] []) (hm : mg "come_by" = some (.ref a)) : Cal P w K mg base 2 "come_by" ["rule", "memory"] f_come_by := by
  refine cal_of F sc_come_by hb hm (fun ss cs Ed Q h => ?_) (fun cdv A outer s H E hr => (q_scons (q_ifS (q_tcmp (op_eqD hr.units) sr_eq (q_ixV 0 (pv 0) q_int) q_str)
      (q_sone (q_ret (q_call G_come_share (hr.mono (by decide)) (passes_call (takes_of rfl rfl rfl rfl) fun _ _ _ _ h => h) (q_consV 1 (pv 1) q_nil))))
      q_snil)
      (q_sone (q_ret (q_tup (q_consV 1 (pv 1) (q_cons q_bl q_nil))))))) ?_
  · obtain ⟨_, _, rfl, _⟩ := h; rfl
  intro ss cs Ed Qd h
  obtain ⟨R, M, rfl, hM, h⟩ := h
  cases hM with
  | late hr hm => exact ⟨rfl, _, _, rfl, rfl, shL, shS, ifF sLS ⟨le_line (show 2 ≤ 100000 by decide), h⟩⟩
  | share hr hm => exact ⟨rfl, _, _, rfl, rfl, shS, shS, ifT sSS ⟨_, _, rfl, hm, h⟩⟩
  | none => exact ⟨rfl, _, _, rfl, rfl, shN, shS, ifF sNS ⟨le_line (show 2 ≤ 100000 by decide), h⟩⟩

/-! renew_by -/
def f_renew_by : FD := fun ss cs _ Q => ∃ (R : Ru) (M : Me) (w : Int), ss = [.d R.d, .d M.d, .d (.int w)] ∧ RM R M ∧ (0 ≤ w ∧ w ≤ 1000000) ∧ Q (renewR R M w).d cs
theorem sc_renew_by : FnScope ["rule", "memory", "wait"] ["rule", "memory", "wait"] (defScope s_renew_by) := ⟨rfl, rfl, rfl, by decide +kernel, rfl, by decide +kernel, by decide +kernel⟩
theorem ok_renew_by (T : Txt mg) (G_renew_share : Cal P w K mg base 1 "renew_share" ["rule", "memory", "wait"] f_renew_share) {a : Addr} {fd : FuncData} (F : FunD K "renew_by" "renew_by" (defArgs s_renew_by) (defBody s_renew_by) (defScope s_renew_by) [] [] a fd) (hb : Binds K fd ["rule", "memory", "wait"] []) (hm : mg "renew_by" = some (.ref a)) : Cal P w K mg base 2 "renew_by" ["rule", "memory", "wait"] f_renew_by := by
  refine cal_of F sc_renew_by hb hm (fun ss cs Ed Q h => ?_) (fun cdv A outer s H E hr => (q_scons (q_ifS (q_tcmp (op_eqD hr.units) sr_eq (q_ixV 0 (pv 0) q_int) q_str)
      (q_sone (q_ret (q_call G_renew_share (hr.mono (by decide)) (passes_call (takes_of rfl rfl rfl rfl) fun _ _ _ _ h => h) (q_consV 0 (pv 0) (q_consV 1 (pv 1) (q_consV 2 (pv 2) q_nil))))))
      q_snil)
      (q_sone (q_retV 1 (pv 1))))) ?_
  · obtain ⟨_, _, _, rfl, _⟩ := h; rfl
  intro ss cs Ed Qd h
  obtain ⟨R, M, w, rfl, hM, hw, h⟩ := h
  cases hM with
  | late hr hm => exact ⟨rfl, _, _, rfl, rfl, shL, shS, ifF sLS h⟩
  | share hr hm => exact ⟨rfl, _, _, rfl, rfl, shS, shS, ifT sSS ⟨_, _, w, rfl, hr, hm, hw, h⟩⟩
  | none => exact ⟨rfl, _, _, rfl, rfl, shN, shS, ifF sNS h⟩

/-! pass_by -/
def f_pass_by : FD := fun ss cs _ Q => ∃ (R : Ru) (M : Me), ss = [.d R.d, .d M.d] ∧ RM R M ∧ Q (passR R M).d cs
theorem sc_pass_by : FnScope ["rule", "memory"] ["rule", "memory"] (defScope s_pass_by) := ⟨rfl, rfl, rfl, by decide +kernel, rfl, by decide +kernel, by decide +kernel⟩
theorem ok_pass_by (T : Txt mg) (G_pass_late : Cal P w K mg base 1 "pass_late" ["rule", "memory"] f_pass_late) (G_pass_share : Cal P w K mg base 1 "pass_share" ["rule", "memory"] f_pass_share) {a : Addr} {fd : FuncData} (F : FunD K "pass_by" "pass_by" (defArgs s_pass_by) (defBody s_pass_by) (defScope s_pass_by) [] [] a fd) (hb : Binds K fd ["rule", "memory"] []) (hm : mg "pass_by" = some (.ref a)) : Cal P w K mg base 2 "pass_by" ["rule", "memory"] f_pass_by := by
  refine cal_of F sc_pass_by hb hm (fun ss cs Ed Q h => ?_) (fun cdv A outer s H E hr => (q_scons (q_ifS (q_tcmp (op_eqD hr.units) sr_eq (q_ixV 0 (pv 0) q_int) q_str)
      (q_sone (q_ret (q_call G_pass_late (hr.mono (by decide)) (passes_call (takes_of rfl rfl rfl rfl) fun _ _ _ _ h => h) (q_consV 0 (pv 0) (q_consV 1 (pv 1) q_nil)))))
      q_snil)
      (q_scons (q_ifS (q_tcmp (op_eqD hr.units) sr_eq (q_ixV 0 (pv 0) q_int) q_str)
      (q_sone (q_ret (q_call G_pass_share (hr.mono (by decide)) (passes_call (takes_of rfl rfl rfl rfl) fun _ _ _ _ h => h) (q_consV 0 (pv 0) (q_consV 1 (pv 1) q_nil)))))
      q_snil)
      (q_sone (q_retV 1 (pv 1)))))) ?_
  · obtain ⟨_, _, rfl, _⟩ := h; rfl
  intro ss cs Ed Qd h
  obtain ⟨R, M, rfl, hM, h⟩ := h
  cases hM with
  | late hr hm => exact ⟨rfl, _, _, rfl, rfl, shL, shL, ifT sLL ⟨_, _, rfl, h⟩⟩
  | share hr hm => exact ⟨rfl, _, _, rfl, rfl, shS, shL, ifF sSL ⟨rfl, _, _, rfl, rfl, shS, shS, ifT sSS ⟨_, _, rfl, h⟩⟩⟩
  | none => exact ⟨rfl, _, _, rfl, rfl, shN, shL, ifF sNL ⟨rfl, _, _, rfl, rfl, shN, shS, ifF sNS h⟩⟩

/-! check_number -/
def f_check_number : FD := fun ss cs _ Q => ∃ i lo hi, ss = [.d (.int i), .d (.int lo), .d (.int hi)] ∧ (lo ≤ i ∧ i ≤ hi) ∧ Q .none cs
theorem sc_check_number : FnScope ["thing", "low", "high"] ["thing", "low", "high"] (defScope s_check_number) := ⟨rfl, rfl, rfl, by decide +kernel, rfl, by decide +kernel, by decide +kernel⟩
theorem ok_check_number (T : Txt mg) (G_is_within : Cal P w K mg base 2 "is_within" ["thing", "low", "high"] f_is_within) {a : Addr} {fd : FuncData} (F : FunD K "check_number" "check_number" (defArgs s_check_number) (defBody s_check_number) (defScope s_check_number) [] [] a fd) (hb : Binds K fd ["thing", "low", "high"] []) (hm : mg "check_number" = some (.ref a)) : Cal P w K mg base 3 "check_number" ["thing", "low", "high"] f_check_number := by
  refine cal_of F sc_check_number hb hm (fun ss cs Ed Q h => ?_) (fun cdv A outer s H E hr => (q_sone (q_ifS (q_not (q_tv (q_call G_is_within (hr.mono (by decide)) (passes_call (takes_of rfl rfl rfl rfl) fun _ _ _ _ h => h) (q_consV 0 (pv 0) (q_consV 1 (pv 1) (q_consV 2 (pv 2) q_nil))))))
      (q_sone q_never)
      q_snil))) ?_
  · obtain ⟨_, _, _, rfl, _⟩ := h; rfl
  intro ss cs Ed Qd h
  obtain ⟨i, lo, hi, rfl, hw, h⟩ := h
  refine ⟨.int i, lo, hi, rfl, ?_⟩
  exact ifNT (isWi_yes hw) h

/-! is_late -/
def f_is_late : FD := fun ss cs _ Q => ∃ R : Ru, ss = [.d R.d] ∧ R.Ok ∧ Q (.bool R.isL) cs
theorem sc_is_late : FnScope ["thing", "word", "mark", "span"] ["thing"] (defScope s_is_late) := ⟨rfl, rfl, rfl, by decide +kernel, rfl, by decide +kernel, by decide +kernel⟩
theorem ok_is_late (T : Txt mg) (G_is_within : Cal P w K mg base 2 "is_within" ["thing", "low", "high"] f_is_within) {a : Addr} {fd : FuncData} (F : FunD K "is_late" "is_late" (defArgs s_is_late) (defBody s_is_late) (defScope s_is_late) [] [] a fd) (hb : Binds K fd ["thing"] []) (hm : mg "is_late" = some (.ref a)) : Cal P w K mg base 3 "is_late" ["thing"] f_is_late := by
  refine cal_of F sc_is_late hb hm (fun ss cs Ed Q h => ?_) (fun cdv A outer s H E hr => (q_scons (q_ifS (q_w (q_or (q_not (q_tv (q_isi "tuple" (q_var 0) T.f_isinstance T.f_tuple (by decide +kernel)))) (q_or1 (q_tcmp (op_neD hr.units) sr_ne (q_lenV 0 (pv 0) T.f_len) q_int))))
      (q_sone (q_ret q_bl))
      q_snil)
      (q_scons (q_unp [1, 2, 3] rfl (pgs_cons (pg_name (i := 1) sc_is_late.nd rfl (by first | exact Or.inl rfl | exact Or.inr rfl)) (pgs_cons (pg_name (i := 2) sc_is_late.nd rfl (by first | exact Or.inl rfl | exact Or.inr rfl)) (pgs_cons (pg_name (i := 3) sc_is_late.nd rfl (by first | exact Or.inl rfl | exact Or.inr rfl)) pgs_nil))) (q_var 0))
      (q_sone (q_ret (q_vand (q_cmp (op_eqD hr.units) sr_eq (q_var 1) q_str) (q_vand (q_call G_is_within (hr.mono (by decide)) (passes_call (takes_of rfl rfl rfl rfl) fun _ _ _ _ h => h) (q_consV 2 (pv 2) (q_cons q_int (q_cons (q_globI T.i_MOST_MARK_late) q_nil)))) (q_v1 (q_call G_is_within (hr.mono (by decide)) (passes_call (takes_of rfl rfl rfl rfl) fun _ _ _ _ h => h) (q_consV 3 (pv 3) (q_cons q_int (q_cons (q_globI T.i_MOST_SPAN_late) q_nil)))))))))))) ?_
  · obtain ⟨_, rfl, _⟩ := h; rfl
  intro ss cs Ed Qd h
  obtain ⟨R, rfl, hR, h⟩ := h
  cases R with
  | none => exact ⟨true, rfl, _, rfl, rfl, rfl, h⟩
  | share r => exact ⟨true, rfl, _, rfl, rfl, rfl, h⟩
  | late r =>
    have ho : r.Ok := hR
    refine ⟨true, rfl, _, rfl, rfl, rfl, _, rfl, by decide +kernel, by decide +kernel, ifT (by decide +kernel) ⟨_, _, _, rfl, ?_⟩⟩
    refine ifT (isWi_yes ho.m) ⟨_, _, _, rfl, ?_⟩
    exact Eq.mp (congrArg (fun b => Qd (.bool b) cs) (isWi_yes ho.sp).symm) h

/-! fits_late -/
def f_fits_late : FD := fun ss cs _ Q => ∃ (r : Lr) (m : Lm), ss = [.d r.d, .d m.d] ∧ r.Ok ∧ m.Ok r ∧ Q (.bool true) cs
theorem sc_fits_late : FnScope ["rule", "thing", "age", "left", "count", "span"] ["rule", "thing"] (defScope s_fits_late) := ⟨rfl, rfl, rfl, by decide +kernel, rfl, by decide +kernel, by decide +kernel⟩
theorem ok_fits_late (T : Txt mg) (G_is_within : Cal P w K mg base 2 "is_within" ["thing", "low", "high"] f_is_within) {a : Addr} {fd : FuncData} (F : FunD K "fits_late" "fits_late" (defArgs s_fits_late) (defBody s_fits_late) (defScope s_fits_late) [] [] a fd) (hb : Binds K fd ["rule", "thing"] []) (hm : mg "fits_late" = some (.ref a)) : Cal P w K mg base 3 "fits_late" ["rule", "thing"] f_fits_late := by
  refine cal_of F sc_fits_late hb hm (fun ss cs Ed Q h => ?_) (fun cdv A outer s H E hr => (q_scons (q_ifS (q_w (q_or (q_not (q_tv (q_isi "tuple" (q_var 1) T.f_isinstance T.f_tuple (by decide +kernel)))) (q_or1 (q_tcmp (op_neD hr.units) sr_ne (q_lenV 1 (pv 1) T.f_len) q_int))))
      (q_sone (q_ret q_bl))
      q_snil)
      (q_scons (q_unp [2, 3, 4] rfl (pgs_cons (pg_name (i := 2) sc_fits_late.nd rfl (by first | exact Or.inl rfl | exact Or.inr rfl)) (pgs_cons (pg_name (i := 3) sc_fits_late.nd rfl (by first | exact Or.inl rfl | exact Or.inr rfl)) (pgs_cons (pg_name (i := 4) sc_fits_late.nd rfl (by first | exact Or.inl rfl | exact Or.inr rfl)) pgs_nil))) (q_var 1))
      (q_scons (q_set 5 sc_fits_late.nd (q_ixV 0 (pv 0) q_int))
      (q_scons (q_ifS (q_not (q_tv (q_call G_is_within (hr.mono (by decide)) (passes_call (takes_of rfl rfl rfl rfl) fun _ _ _ _ h => h) (q_consV 4 (pv 4) (q_cons q_int (q_cons (q_bin op_times sr_times (q_var 5) (q_var 5)) q_nil))))))
      (q_sone (q_ret q_bl))
      q_snil)
      (q_scons (q_ifS (q_w (q_and (q_tcmp op_notN sr_notN (q_var 2) q_non) (q_and1 (q_not (q_tv (q_call G_is_within (hr.mono (by decide)) (passes_call (takes_of rfl rfl rfl rfl) fun _ _ _ _ h => h) (q_consV 2 (pv 2) (q_cons q_int (q_consV 5 (pv 5) q_nil)))))))))
      (q_sone (q_ret q_bl))
      q_snil)
      (q_scons (q_ifS (q_tcmp op_isN sr_isN (q_var 3) q_non)
      (q_sone (q_ret q_bl))
      q_snil)
      (q_sone (q_ret (q_vand (q_cmp (op_eqD hr.units) sr_eq (q_var 2) (q_var 5)) (q_v1 (q_call G_is_within (hr.mono (by decide)) (passes_call (takes_of rfl rfl rfl rfl) fun _ _ _ _ h => h) (q_consV 3 (pv 3) (q_cons q_int (q_consV 5 (pv 5) q_nil))))))))))))))) ?_
  · obtain ⟨_, _, rfl, _⟩ := h; rfl
  intro ss cs Ed Qd h
  obtain ⟨r, ⟨age, left, cnt⟩, rfl, hr, ho, h⟩ := h
  obtain ⟨s1, s2⟩ := sq_ok hr.sp
  have hs := hr.sp
  refine ⟨true, rfl, _, rfl, rfl, rfl, _, rfl, rfl, _, _, rfl, rfl, .inl ⟨by omega, by omega⟩, _, _, _, rfl, ?_⟩
  refine ifNT (isWi_yes ho.cnt) ?_
  cases age with
  | none =>
    cases left with
    | none => exact h
    | some l => cases (ho.left l rfl).1
  | some a =>
    refine ⟨_, _, _, rfl, ifNT (isWi_yes (ho.age a rfl)) ?_⟩
    cases left with
    | none => exact h
    | some l =>
      obtain ⟨z1, z2⟩ := ho.left l rfl
      refine ⟨rfl, rfl, ifT ((eqv_int _ _).trans (dT (Option.some.inj z1))) ⟨_, _, _, rfl, ?_⟩⟩
      exact Eq.mp (congrArg (fun b => Qd (.bool b) cs) (isWi_yes z2).symm) h

/-! is_share -/
def f_is_share : FD := fun ss cs _ Q => ∃ R : Ru, ss = [.d R.d] ∧ R.Ok ∧ Q (.bool R.isS) cs
theorem sc_is_share : FnScope ["thing", "word", "mark", "period", "up", "turn"] ["thing"] (defScope s_is_share) := ⟨rfl, rfl, rfl, by decide +kernel, rfl, by decide +kernel, by decide +kernel⟩
theorem ok_is_share (T : Txt mg) (G_is_within : Cal P w K mg base 2 "is_within" ["thing", "low", "high"] f_is_within) {a : Addr} {fd : FuncData} (F : FunD K "is_share" "is_share" (defArgs s_is_share) (defBody s_is_share) (defScope s_is_share) [] [] a fd) (hb : Binds K fd ["thing"] []) (hm : mg "is_share" = some (.ref a)) : Cal P w K mg base 3 "is_share" ["thing"] f_is_share := by
  refine cal_of F sc_is_share hb hm (fun ss cs Ed Q h => ?_) (fun cdv A outer s H E hr => (q_scons (q_ifS (q_w (q_or (q_not (q_tv (q_isi "tuple" (q_var 0) T.f_isinstance T.f_tuple (by decide +kernel)))) (q_or1 (q_tcmp (op_neD hr.units) sr_ne (q_lenV 0 (pv 0) T.f_len) q_int))))
      (q_sone (q_ret q_bl))
      q_snil)
      (q_scons (q_unp [1, 2, 3, 4, 5] rfl (pgs_cons (pg_name (i := 1) sc_is_share.nd rfl (by first | exact Or.inl rfl | exact Or.inr rfl)) (pgs_cons (pg_name (i := 2) sc_is_share.nd rfl (by first | exact Or.inl rfl | exact Or.inr rfl)) (pgs_cons (pg_name (i := 3) sc_is_share.nd rfl (by first | exact Or.inl rfl | exact Or.inr rfl)) (pgs_cons (pg_name (i := 4) sc_is_share.nd rfl (by first | exact Or.inl rfl | exact Or.inr rfl)) (pgs_cons (pg_name (i := 5) sc_is_share.nd rfl (by first | exact Or.inl rfl | exact Or.inr rfl)) pgs_nil))))) (q_var 0))
      (q_scons (q_ifS (q_w (q_or (q_tcmp (op_neD hr.units) sr_ne (q_var 1) q_str) (q_or (q_not (q_tv (q_call G_is_within (hr.mono (by decide)) (passes_call (takes_of rfl rfl rfl rfl) fun _ _ _ _ h => h) (q_consV 2 (pv 2) (q_cons q_int (q_cons (q_globI T.i_MOST_MARK_share) q_nil)))))) (q_or1 (q_not (q_tv (q_call G_is_within (hr.mono (by decide)) (passes_call (takes_of rfl rfl rfl rfl) fun _ _ _ _ h => h) (q_consV 3 (pv 3) (q_cons q_int (q_cons (q_globI T.i_MOST_PERIOD) q_nil))))))))))
      (q_sone (q_ret q_bl))
      q_snil)
      (q_sone (q_ret (q_vand (q_call G_is_within (hr.mono (by decide)) (passes_call (takes_of rfl rfl rfl rfl) fun _ _ _ _ h => h) (q_consV 4 (pv 4) (q_cons q_int (q_cons (q_globI T.i_MOST_FACTOR) q_nil)))) (q_v1 (q_call G_is_within (hr.mono (by decide)) (passes_call (takes_of rfl rfl rfl rfl) fun _ _ _ _ h => h) (q_consV 5 (pv 5) (q_cons q_int (q_cons (q_globI T.i_MOST_FACTOR) q_nil)))))))))))) ?_
  · obtain ⟨_, rfl, _⟩ := h; rfl
  intro ss cs Ed Qd h
  obtain ⟨R, rfl, hR, h⟩ := h
  cases R with
  | none => exact ⟨true, rfl, _, rfl, rfl, rfl, h⟩
  | late r => exact ⟨true, rfl, _, rfl, rfl, rfl, h⟩
  | share r =>
    have ho : r.Ok := hR
    refine ⟨true, rfl, _, rfl, rfl, rfl, _, rfl, by decide +kernel, by decide +kernel, ifF (by decide +kernel) ⟨_, _, _, rfl, ?_⟩⟩
    refine ifNT (isWi_yes ho.m) ⟨_, _, _, rfl, ifNT (isWi_yes ho.p) ⟨_, _, _, rfl, ?_⟩⟩
    refine ifT (isWi_yes ho.u) ⟨_, _, _, rfl, ?_⟩
    exact Eq.mp (congrArg (fun b => Qd (.bool b) cs) (isWi_yes ho.t).symm) h

/-! fits_share -/
def f_fits_share : FD := fun ss cs _ Q => ∃ (r : Rl) (m : Mm), ss = [.d r.d, .d m.d] ∧ m.Ok r ∧ Q (.bool true) cs
theorem sc_fits_share : FnScope ["rule", "thing", "phase", "share", "old", "total"] ["rule", "thing"] (defScope s_fits_share) := ⟨rfl, rfl, rfl, by decide +kernel, rfl, by decide +kernel, by decide +kernel⟩
theorem ok_fits_share (T : Txt mg) (G_is_within : Cal P w K mg base 2 "is_within" ["thing", "low", "high"] f_is_within) {a : Addr} {fd : FuncData} (F : FunD K "fits_share" "fits_share" (defArgs s_fits_share) (defBody s_fits_share) (defScope s_fits_share) [] [] a fd) (hb : Binds K fd ["rule", "thing"] []) (hm : mg "fits_share" = some (.ref a)) : Cal P w K mg base 3 "fits_share" ["rule", "thing"] f_fits_share := by
  refine cal_of F sc_fits_share hb hm (fun ss cs Ed Q h => ?_) (fun cdv A outer s H E hr => (q_scons (q_ifS (q_w (q_or (q_not (q_tv (q_isi "tuple" (q_var 1) T.f_isinstance T.f_tuple (by decide +kernel)))) (q_or1 (q_tcmp (op_neD hr.units) sr_ne (q_lenV 1 (pv 1) T.f_len) q_int))))
      (q_sone (q_ret q_bl))
      q_snil)
      (q_scons (q_unp [2, 3, 4, 5] rfl (pgs_cons (pg_name (i := 2) sc_fits_share.nd rfl (by first | exact Or.inl rfl | exact Or.inr rfl)) (pgs_cons (pg_name (i := 3) sc_fits_share.nd rfl (by first | exact Or.inl rfl | exact Or.inr rfl)) (pgs_cons (pg_name (i := 4) sc_fits_share.nd rfl (by first | exact Or.inl rfl | exact Or.inr rfl)) (pgs_cons (pg_name (i := 5) sc_fits_share.nd rfl (by first | exact Or.inl rfl | exact Or.inr rfl)) pgs_nil)))) (q_var 1))
      (q_scons (q_ifS (q_w (q_or (q_not (q_tv (q_call G_is_within (hr.mono (by decide)) (passes_call (takes_of rfl rfl rfl rfl) fun _ _ _ _ h => h) (q_consV 2 (pv 2) (q_cons q_int (q_cons (q_bin op_sub sr_sub (q_ixV 0 (pv 0) q_int) q_int) q_nil)))))) (q_or1 (q_not (q_tv (q_call G_is_within (hr.mono (by decide)) (passes_call (takes_of rfl rfl rfl rfl) fun _ _ _ _ h => h) (q_consV 3 (pv 3) (q_cons q_int (q_cons (q_globI T.i_WHOLE_SHARE) q_nil)))))))))
      (q_sone (q_ret q_bl))
      q_snil)
      (q_sone (q_ret (q_vand (q_call G_is_within (hr.mono (by decide)) (passes_call (takes_of rfl rfl rfl rfl) fun _ _ _ _ h => h) (q_consV 4 (pv 4) (q_cons q_int (q_cons (q_globI T.i_MOST_OLD) q_nil)))) (q_v1 (q_call G_is_within (hr.mono (by decide)) (passes_call (takes_of rfl rfl rfl rfl) fun _ _ _ _ h => h) (q_consV 5 (pv 5) (q_cons q_int (q_cons (q_bin op_sub sr_sub (q_globI T.i_WHOLE_SHARE) q_int) q_nil)))))))))))) ?_
  · obtain ⟨_, _, rfl, _⟩ := h; rfl
  intro ss cs Ed Qd h
  obtain ⟨r, m, rfl, ho, h⟩ := h
  refine ⟨true, rfl, _, rfl, rfl, rfl, _, rfl, rfl, _, _, rfl, rfl, _, _, _, rfl, ?_⟩
  refine ifNT (isWi_yes ho.ph) ⟨_, _, _, rfl, ifNT (isWi_yes ho.sh) ⟨_, _, _, rfl, ?_⟩⟩
  refine ifT (isWi_yes ho.old) ⟨_, _, _, rfl, ?_⟩
  exact Eq.mp (congrArg (fun b => Qd (.bool b) cs) (isWi_yes ho.tot).symm) h

/-! gap -/
def f_gap : FD := fun ss cs _ Q => ∃ sp c : Int, ss = [.d (.int sp), .d (.int c)] ∧ (1 ≤ sp ∧ sp ≤ 99) ∧ (1 ≤ c ∧ c ≤ sp * sp) ∧ Q (.int (gapI sp c)) cs
theorem sc_gap : FnScope ["span", "count"] ["span", "count"] (defScope s_gap) := ⟨rfl, rfl, rfl, by decide +kernel, rfl, by decide +kernel, by decide +kernel⟩
theorem ok_gap (T : Txt mg) (G_check_number : Cal P w K mg base 3 "check_number" ["thing", "low", "high"] f_check_number) (G_root : Cal P w K mg base 2 "root" ["number"] f_root) {a : Addr} {fd : FuncData} (F : FunD K "gap" "gap" (defArgs s_gap) (defBody s_gap) (defScope s_gap) [] [] a fd) (hb : Binds K fd ["span", "count"] []) (hm : mg "gap" = some (.ref a)) : Cal P w K mg base 4 "gap" ["span", "count"] f_gap := by
  refine cal_of F sc_gap hb hm (fun ss cs Ed Q h => ?_) (fun cdv A outer s H E hr => (q_scons (q_expr (q_call G_check_number (hr.mono (by decide)) (passes_call (takes_of rfl rfl rfl rfl) fun _ _ _ _ h => h) (q_consV 0 (pv 0) (q_cons q_int (q_cons (q_globI T.i_MOST_SPAN_roots) q_nil)))))
      (q_scons (q_expr (q_call G_check_number (hr.mono (by decide)) (passes_call (takes_of rfl rfl rfl rfl) fun _ _ _ _ h => h) (q_consV 1 (pv 1) (q_cons q_int (q_cons (q_bin op_times sr_times (q_var 0) (q_var 0)) q_nil)))))
      (q_sone (q_ret (q_call G_root (hr.mono (by decide)) (passes_call (takes_of rfl rfl rfl rfl) fun _ _ _ _ h => h) (q_cons (q_bin op_fdivW sr_div (q_bin op_times sr_times (q_var 0) (q_var 0)) (q_var 1)) q_nil))))))) ?_
  · obtain ⟨_, _, rfl, _⟩ := h; rfl
  intro ss cs Ed Qd h
  obtain ⟨sp, c, rfl, hs, hc, h⟩ := h
  obtain ⟨s1, s2⟩ := sq_ok hs
  obtain ⟨d1, d2⟩ := div_in (a := sp * sp) (c := c) (by omega) hc.1
  refine ⟨sp, 1, 99, rfl, hs, .inl ⟨by omega, by omega⟩, c, 1, sp * sp, rfl, hc, .inl ⟨by omega, by omega⟩, wide_div (by omega) (by omega) (by decide) (by decide : 200 ≤ 9000), sp * sp / c, rfl, ⟨d1, by omega⟩, h⟩

/-! _check_late -/
def f_check_late : FD := fun ss cs _ Q => ∃ r : Lr, ss = [.d r.d] ∧ r.Ok ∧ Q .none cs
theorem sc_check_late : FnScope ["rule"] ["rule"] (defScope s_check_late) := ⟨rfl, rfl, rfl, by decide +kernel, rfl, by decide +kernel, by decide +kernel⟩
theorem ok_check_late (T : Txt mg) (G_is_late : Cal P w K mg base 3 "is_late" ["thing"] f_is_late) {a : Addr} {fd : FuncData} (F : FunD K "_check_late" "_check_late" (defArgs s_check_late) (defBody s_check_late) (defScope s_check_late) [] [] a fd) (hb : Binds K fd ["rule"] []) (hm : mg "_check_late" = some (.ref a)) : Cal P w K mg base 4 "_check_late" ["rule"] f_check_late := by
  refine cal_of F sc_check_late hb hm (fun ss cs Ed Q h => ?_) (fun cdv A outer s H E hr => (q_sone (q_ifS (q_not (q_tv (q_call G_is_late (hr.mono (by decide)) (passes_call (takes_of rfl rfl rfl rfl) fun _ _ _ _ h => h) (q_consV 0 (pv 0) q_nil))))
      (q_sone q_never)
      q_snil))) ?_
  · obtain ⟨_, rfl, _⟩ := h; rfl
  intro ss cs Ed Qd h
  obtain ⟨r, rfl, ho, h⟩ := h
  exact ⟨.late r, rfl, ho, h⟩

/-! _check_share -/
def f_check_share : FD := fun ss cs _ Q => ∃ r : Rl, ss = [.d r.d] ∧ r.Ok ∧ Q .none cs
theorem sc_check_share : FnScope ["rule"] ["rule"] (defScope s_check_share) := ⟨rfl, rfl, rfl, by decide +kernel, rfl, by decide +kernel, by decide +kernel⟩
theorem ok_check_share (T : Txt mg) (G_is_share : Cal P w K mg base 3 "is_share" ["thing"] f_is_share) {a : Addr} {fd : FuncData} (F : FunD K "_check_share" "_check_share" (defArgs s_check_share) (defBody s_check_share) (defScope s_check_share) [] [] a fd) (hb : Binds K fd ["rule"] []) (hm : mg "_check_share" = some (.ref a)) : Cal P w K mg base 4 "_check_share" ["rule"] f_check_share := by
  refine cal_of F sc_check_share hb hm (fun ss cs Ed Q h => ?_) (fun cdv A outer s H E hr => (q_sone (q_ifS (q_not (q_tv (q_call G_is_share (hr.mono (by decide)) (passes_call (takes_of rfl rfl rfl rfl) fun _ _ _ _ h => h) (q_consV 0 (pv 0) q_nil))))
      (q_sone q_never)
      q_snil))) ?_
  · obtain ⟨_, rfl, _⟩ := h; rfl
  intro ss cs Ed Qd h
  obtain ⟨r, rfl, ho, h⟩ := h
  exact ⟨.share r, rfl, ho, h⟩

/-! is_rule -/
def f_is_rule : FD := fun ss cs _ Q => ∃ R : Ru, ss = [.d R.d] ∧ R.Ok ∧ Q (.bool true) cs
theorem sc_is_rule : FnScope ["thing"] ["thing"] (defScope s_is_rule) := ⟨rfl, rfl, rfl, by decide +kernel, rfl, by decide +kernel, by decide +kernel⟩
theorem ok_is_rule (T : Txt mg) (G_is_late : Cal P w K mg base 3 "is_late" ["thing"] f_is_late) (G_is_share : Cal P w K mg base 3 "is_share" ["thing"] f_is_share) {a : Addr} {fd : FuncData} (F : FunD K "is_rule" "is_rule" (defArgs s_is_rule) (defBody s_is_rule) (defScope s_is_rule) [] [] a fd) (hb : Binds K fd ["thing"] []) (hm : mg "is_rule" = some (.ref a)) : Cal P w K mg base 4 "is_rule" ["thing"] f_is_rule := by
  refine cal_of F sc_is_rule hb hm (fun ss cs Ed Q h => ?_) (fun cdv A outer s H E hr => (q_sone (q_ret (q_vor (q_call G_is_late (hr.mono (by decide)) (passes_call (takes_of rfl rfl rfl rfl) fun _ _ _ _ h => h) (q_consV 0 (pv 0) q_nil)) (q_vor (q_call G_is_share (hr.mono (by decide)) (passes_call (takes_of rfl rfl rfl rfl) fun _ _ _ _ h => h) (q_consV 0 (pv 0) q_nil)) (q_v1 (q_cmp (op_eqD hr.units) sr_eq (q_var 0) (q_tup (q_cons q_str q_nil))))))))) ?_
  · obtain ⟨_, rfl, _⟩ := h; rfl
  intro ss cs Ed Qd h
  obtain ⟨R, rfl, hR, h⟩ := h
  cases R with
  | late r => exact ⟨.late r, rfl, hR, h⟩
  | share r => exact ⟨.share r, rfl, hR, .share r, rfl, hR, h⟩
  | none =>
    refine ⟨.none, rfl, hR, .none, rfl, hR, le_line (show 1 ≤ 100000 by decide), by decide +kernel, by decide +kernel, ?_⟩
    exact Eq.mp (congrArg (fun b => Qd (.bool b) cs) (show true = PyData.eqv (.tuple [.str "none"]) (.tuple [.str "none"]) by decide +kernel)) h

/-! fits_memory -/
def f_fits_memory : FD := fun ss cs _ Q => ∃ (R : Ru) (M : Me), ss = [.d R.d, .d M.d] ∧ RM R M ∧ Q (.bool true) cs
theorem sc_fits_memory : FnScope ["rule", "thing"] ["rule", "thing"] (defScope s_fits_memory) := ⟨rfl, rfl, rfl, by decide +kernel, rfl, by decide +kernel, by decide +kernel⟩
theorem ok_fits_memory (T : Txt mg) (G_fits_late : Cal P w K mg base 3 "fits_late" ["rule", "thing"] f_fits_late) (G_fits_share : Cal P w K mg base 3 "fits_share" ["rule", "thing"] f_fits_share) {a : Addr} {fd : FuncData} (F : FunD K "fits_memory" "fits_memory" (defArgs s_fits_memory) (defBody s_fits_memory) (defScope s_fits_memory) [] [] a fd) (hb : Binds K fd ["rule", "thing"] []) (hm : mg "fits_memory" = some (.ref a)) : Cal P w K mg base 4 "fits_memory" ["rule", "thing"] f_fits_memory := by
  refine cal_of F sc_fits_memory hb hm (fun ss cs Ed Q h => ?_) (fun cdv A outer s H E hr => (q_scons (q_ifS (q_tcmp (op_eqD hr.units) sr_eq (q_ixV 0 (pv 0) q_int) q_str)
      (q_sone (q_ret (q_call G_fits_late (hr.mono (by decide)) (passes_call (takes_of rfl rfl rfl rfl) fun _ _ _ _ h => h) (q_consV 0 (pv 0) (q_consV 1 (pv 1) q_nil)))))
      q_snil)
      (q_scons (q_ifS (q_tcmp (op_eqD hr.units) sr_eq (q_ixV 0 (pv 0) q_int) q_str)
      (q_sone (q_ret (q_call G_fits_share (hr.mono (by decide)) (passes_call (takes_of rfl rfl rfl rfl) fun _ _ _ _ h => h) (q_consV 0 (pv 0) (q_consV 1 (pv 1) q_nil)))))
      q_snil)
      (q_sone (q_ret (q_cmp (op_eqD hr.units) sr_eq (q_var 1) (q_tup q_nil))))))) ?_
  · obtain ⟨_, _, rfl, _⟩ := h; rfl
  intro ss cs Ed Qd h
  obtain ⟨R, M, rfl, hM, h⟩ := h
  cases hM with
  | late hr hm => exact ⟨rfl, _, _, rfl, rfl, shL, shL, ifT sLL ⟨_, _, rfl, hr, hm, h⟩⟩
  | share hr hm => exact ⟨rfl, _, _, rfl, rfl, shS, shL, ifF sSL ⟨rfl, _, _, rfl, rfl, shS, shS, ifT sSS ⟨_, _, rfl, hm, h⟩⟩⟩
  | none => exact ⟨rfl, _, _, rfl, rfl, shN, shL, ifF sNL ⟨rfl, _, _, rfl, rfl, shN, shS, ifF sNS ⟨le_line (show 0 ≤ 100000 by decide), rfl, rfl, h⟩⟩⟩

/-! late_first -/
def f_late_first : FD := fun ss cs _ Q => ∃ (r : Lr), ss = [.d r.d] ∧ r.Ok ∧ Q (.tuple [.none, .none, .int 0]) cs
theorem sc_late_first : FnScope ["rule"] ["rule"] (defScope s_late_first) := ⟨rfl, rfl, rfl, by decide +kernel, rfl, by decide +kernel, by decide +kernel⟩
theorem ok_late_first (T : Txt mg) (G_check_late : Cal P w K mg base 4 "_check_late" ["rule"] f_check_late) {a : Addr} {fd : FuncData} (F : FunD K "late_first" "late_first" (defArgs s_late_first) (defBody s_late_first) (defScope s_late_first) [] [] a fd) (hb : Binds K fd ["rule"] []) (hm : mg "late_first" = some (.ref a)) : Cal P w K mg base 5 "late_first" ["rule"] f_late_first := by
  refine cal_of F sc_late_first hb hm (fun ss cs Ed Q h => ?_) (fun cdv A outer s H E hr => (q_scons (q_expr (q_call G_check_late (hr.mono (by decide)) (passes_call (takes_of rfl rfl rfl rfl) fun _ _ _ _ h => h) (q_consV 0 (pv 0) q_nil)))
      (q_sone (q_ret (q_tup (q_cons q_non (q_cons q_non (q_cons q_int q_nil)))))))) ?_
  · obtain ⟨_, rfl, _⟩ := h; rfl
  intro ss cs Ed Qd h
  obtain ⟨r, rfl, hr, h⟩ := h
  exact ⟨r, rfl, hr, le_line (show 3 ≤ 100000 by decide), h⟩

/-! look_late -/
def f_look_late : FD := fun ss cs _ Q => ∃ (r : Lr) (m : Lm) (w : Int) (al : Bool), ss = [.d r.d, .d m.d, .d (.int w), .d (.bool al)] ∧ r.Ok ∧ m.Ok r ∧ Q (.tuple [(look r m w al).1.d, .bool (look r m w al).2]) cs
theorem sc_look_late : FnScope ["rule", "memory", "wait", "alone", "mark", "span", "age", "left", "count"] ["rule", "memory", "wait", "alone"] (defScope s_look_late) := ⟨rfl, rfl, rfl, by decide +kernel, rfl, by decide +kernel, by decide +kernel⟩
theorem ok_look_late (T : Txt mg) (G_gap : Cal P w K mg base 4 "gap" ["span", "count"] f_gap) {a : Addr} {fd : FuncData} (F : FunD K "look_late" "look_late" (defArgs s_look_late) (defBody s_look_late) (defScope s_look_late) [] [] a fd) (hb : Binds K fd ["rule", "memory", "wait", "alone"] []) (hm : mg "look_late" = some (.ref a)) : Cal P w K mg base 5 "look_late" ["rule", "memory", "wait", "alone"] f_look_late := by
  refine cal_of F sc_look_late hb hm (fun ss cs Ed Q h => ?_) (fun cdv A outer s H E hr => (q_scons (q_par2 (i := 4) (j := 5) rfl sc_look_late.nd (q_cons (q_ixV 0 (pv 0) q_int) (q_cons (q_ixV 0 (pv 0) q_int) q_nil)))
      (q_scons (q_unp [6, 7, 8] rfl (pgs_cons (pg_name (i := 6) sc_look_late.nd rfl (by first | exact Or.inl rfl | exact Or.inr rfl)) (pgs_cons (pg_name (i := 7) sc_look_late.nd rfl (by first | exact Or.inl rfl | exact Or.inr rfl)) (pgs_cons (pg_name (i := 8) sc_look_late.nd rfl (by first | exact Or.inl rfl | exact Or.inr rfl)) pgs_nil))) (q_var 1))
      (q_scons (q_ifS (q_w (q_or (q_tcmp op_lt sr_lt (q_var 2) (q_var 4)) (q_or1 (q_tv (q_var 3)))))
      (q_sone (q_ret (q_tup (q_cons (q_tup (q_cons q_non (q_cons q_non (q_consV 8 (pv 8) q_nil)))) (q_cons q_bl q_nil)))))
      q_snil)
      (q_scons (q_ifS (q_tcmp op_isN sr_isN (q_var 6) q_non)
      (q_sone (q_ret (q_tup (q_cons (q_tup (q_cons q_int (q_cons q_non (q_consV 8 (pv 8) q_nil)))) (q_cons q_bl q_nil)))))
      q_snil)
      (q_scons (q_ifS (q_w (q_or (q_tcmp op_lt sr_lt (q_var 6) (q_var 5)) (q_or1 (q_w (q_and (q_tcmp op_notN sr_notN (q_var 7) q_non) (q_and1 (q_tcmp op_gt sr_gt (q_var 7) q_int)))))))
      (q_sone (q_ret (q_tup (q_consV 1 (pv 1) (q_cons q_bl q_nil)))))
      q_snil)
      (q_scons (q_ifS (q_tcmp op_isN sr_isN (q_var 7) q_non)
      (q_sone (q_set 8 sc_look_late.nd (q_bin op_plus sr_plus (q_bin op_fdivW sr_div (q_var 8) q_int) q_int)))
      (q_sone (q_set 8 sc_look_late.nd (q_cb (call_min2 rfl) sc_min2 T.f_min (by decide +kernel) (q_cons (q_bin op_plus sr_plus (q_var 8) q_int) (q_cons (q_bin op_times sr_times (q_var 5) (q_var 5)) q_nil))))))
      (q_sone (q_ret (q_tup (q_cons (q_tup (q_consV 5 (pv 5) (q_cons (q_call G_gap (hr.mono (by decide)) (passes_call (takes_of rfl rfl rfl rfl) fun _ _ _ _ h => h) (q_consV 5 (pv 5) (q_consV 8 (pv 8) q_nil))) (q_consV 8 (pv 8) q_nil)))) (q_cons q_bl q_nil)))))))))))) ?_
  · obtain ⟨_, _, _, _, rfl, _⟩ := h; rfl
  intro ss cs Ed Qd h
  obtain ⟨r, ⟨age, left, cnt⟩, w, al, rfl, hr, hm, h⟩ := h
  obtain ⟨s1, s2⟩ := sq_ok hr.sp
  have hs := hr.sp
  have hc : 0 ≤ cnt ∧ cnt ≤ r.sp * r.sp := hm.cnt
  have l3 := le_line (show 3 ≤ 100000 by decide)
  have l2 := le_line (show 2 ≤ 100000 by decide)
  unfold look at h
  refine ⟨rfl, _, _, rfl, rfl, rfl, _, _, rfl, rfl, _, rfl, _, rfl, ?_⟩
  refine ifD2 (fun c => ?_) fun c => ?_
  · rw [if_pos (.inl c)] at h
    exact ⟨l3, l2, h⟩
  · cases al with
    | true =>
      rw [if_pos (.inr rfl)] at h
      exact ⟨l3, l2, h⟩
    | false =>
      rw [if_neg (by rintro (z | z); exact c z; cases z)] at h
      cases age with
      | none => exact ⟨l3, l2, h⟩
      | some a =>
        refine ifD2 (fun c => ?_) fun c => ?_
        · have h' := h
          simp only [] at h'
          rw [if_pos c] at h'
          exact ⟨l2, h'⟩
        · simp only [] at h
          rw [if_neg c] at h
          cases left with
          | none =>
            refine ⟨⟨by decide, by decide⟩, r.sp, cnt / 2 + 1, rfl, hs, ⟨by omega, by omega⟩, l3, l2, h⟩
          | some l =>
            refine ifD2 (fun c => ?_) fun c => ?_
            · simp only [] at h
              rw [if_pos c] at h
              exact ⟨l2, h⟩
            · simp only [] at h
              rw [if_neg c] at h
              refine ⟨.inl ⟨by omega, by omega⟩, r.sp, (if r.sp * r.sp < cnt + 1 then r.sp * r.sp else cnt + 1), rfl, hs, by split <;> omega, l3, l2, h⟩

/-! share_first -/
def f_share_first : FD := fun ss cs _ Q => ∃ (r : Rl), ss = [.d r.d] ∧ r.Ok ∧ Q (.tuple [.int 0, .int 0, .int 0, .int 0]) cs
theorem sc_share_first : FnScope ["rule"] ["rule"] (defScope s_share_first) := ⟨rfl, rfl, rfl, by decide +kernel, rfl, by decide +kernel, by decide +kernel⟩
theorem ok_share_first (T : Txt mg) (G_check_share : Cal P w K mg base 4 "_check_share" ["rule"] f_check_share) {a : Addr} {fd : FuncData} (F : FunD K "share_first" "share_first" (defArgs s_share_first) (defBody s_share_first) (defScope s_share_first) [] [] a fd) (hb : Binds K fd ["rule"] []) (hm : mg "share_first" = some (.ref a)) : Cal P w K mg base 5 "share_first" ["rule"] f_share_first := by
  refine cal_of F sc_share_first hb hm (fun ss cs Ed Q h => ?_) (fun cdv A outer s H E hr => (q_scons (q_expr (q_call G_check_share (hr.mono (by decide)) (passes_call (takes_of rfl rfl rfl rfl) fun _ _ _ _ h => h) (q_consV 0 (pv 0) q_nil)))
      (q_sone (q_ret (q_tup (q_cons q_int (q_cons q_int (q_cons q_int (q_cons q_int q_nil))))))))) ?_
  · obtain ⟨_, rfl, _⟩ := h; rfl
  intro ss cs Ed Qd h
  obtain ⟨r, rfl, hr, h⟩ := h
  exact ⟨r, rfl, hr, le_line (show 4 ≤ 100000 by decide), h⟩

/-! check_rule -/
def f_check_rule : FD := fun ss cs _ Q => ∃ R : Ru, ss = [.d R.d] ∧ R.Ok ∧ Q .none cs
theorem sc_check_rule : FnScope ["rule"] ["rule"] (defScope s_check_rule) := ⟨rfl, rfl, rfl, by decide +kernel, rfl, by decide +kernel, by decide +kernel⟩
theorem ok_check_rule (T : Txt mg) (G_is_rule : Cal P w K mg base 4 "is_rule" ["thing"] f_is_rule) {a : Addr} {fd : FuncData} (F : FunD K "check_rule" "check_rule" (defArgs s_check_rule) (defBody s_check_rule) (defScope s_check_rule) [] [] a fd) (hb : Binds K fd ["rule"] []) (hm : mg "check_rule" = some (.ref a)) : Cal P w K mg base 5 "check_rule" ["rule"] f_check_rule := by
  refine cal_of F sc_check_rule hb hm (fun ss cs Ed Q h => ?_) (fun cdv A outer s H E hr => (q_sone (q_ifS (q_not (q_tv (q_call G_is_rule (hr.mono (by decide)) (passes_call (takes_of rfl rfl rfl rfl) fun _ _ _ _ h => h) (q_consV 0 (pv 0) q_nil))))
      (q_sone q_never)
      q_snil))) ?_
  · obtain ⟨_, rfl, _⟩ := h; rfl
  intro ss cs Ed Qd h
  obtain ⟨R, rfl, hR, h⟩ := h
  exact ⟨R, rfl, hR, h⟩

/-! first_memory -/
def f_first_memory : FD := fun ss cs _ Q => ∃ (R : Ru), ss = [.d R.d] ∧ R.Ok ∧ Q (firstM R).d cs
theorem sc_first_memory : FnScope ["rule"] ["rule"] (defScope s_first_memory) := ⟨rfl, rfl, rfl, by decide +kernel, rfl, by decide +kernel, by decide +kernel⟩
theorem ok_first_memory (T : Txt mg) (G_check_rule : Cal P w K mg base 5 "check_rule" ["rule"] f_check_rule) (G_late_first : Cal P w K mg base 5 "late_first" ["rule"] f_late_first) (G_share_first : Cal P w K mg base 5 "share_first" ["rule"] f_share_first) {a : Addr} {fd : FuncData} (F : FunD K "first_memory" "first_memory" (defArgs s_first_memory) (defBody s_first_memory) (defScope s_first_memory) [] [] a fd) (hb : Binds K fd ["rule"] []) (hm : mg "first_memory" = some (.ref a)) : Cal P w K mg base 6 "first_memory" ["rule"] f_first_memory := by
  refine cal_of F sc_first_memory hb hm (fun ss cs Ed Q h => ?_) (fun cdv A outer s H E hr => (q_scons (q_expr (q_call G_check_rule (hr.mono (by decide)) (passes_call (takes_of rfl rfl rfl rfl) fun _ _ _ _ h => h) (q_consV 0 (pv 0) q_nil)))
      (q_scons (q_ifS (q_tcmp (op_eqD hr.units) sr_eq (q_ixV 0 (pv 0) q_int) q_str)
      (q_sone (q_ret (q_call G_late_first (hr.mono (by decide)) (passes_call (takes_of rfl rfl rfl rfl) fun _ _ _ _ h => h) (q_consV 0 (pv 0) q_nil))))
      q_snil)
      (q_scons (q_ifS (q_tcmp (op_eqD hr.units) sr_eq (q_ixV 0 (pv 0) q_int) q_str)
      (q_sone (q_ret (q_call G_share_first (hr.mono (by decide)) (passes_call (takes_of rfl rfl rfl rfl) fun _ _ _ _ h => h) (q_consV 0 (pv 0) q_nil))))
      q_snil)
      (q_sone (q_ret (q_tup q_nil))))))) ?_
  · obtain ⟨_, rfl, _⟩ := h; rfl
  intro ss cs Ed Qd h
  obtain ⟨R, rfl, hR, h⟩ := h
  refine ⟨R, rfl, hR, ?_⟩
  cases R with
  | late r => exact ⟨rfl, _, _, rfl, rfl, shL, shL, ifT sLL ⟨r, rfl, hR, h⟩⟩
  | share r => exact ⟨rfl, _, _, rfl, rfl, shS, shL, ifF sSL ⟨rfl, _, _, rfl, rfl, shS, shS, ifT sSS ⟨r, rfl, hR, h⟩⟩⟩
  | none => exact ⟨rfl, _, _, rfl, rfl, shN, shL, ifF sNL ⟨rfl, _, _, rfl, rfl, shN, shS, ifF sNS ⟨le_line (show 0 ≤ 100000 by decide), h⟩⟩⟩

/-! look_at -/
def f_look_at : FD := fun ss cs _ Q => ∃ (R : Ru) (M : Me) (w : Int) (al : Bool), ss = [.d R.d, .d M.d, .d (.int w), .d (.bool al)] ∧ RM R M ∧ (0 ≤ w ∧ w ≤ 1000000) ∧ Q (.tuple [(lookR R M w al).1.d, .bool (lookR R M w al).2]) cs
theorem sc_look_at : FnScope ["rule", "memory", "wait", "alone"] ["rule", "memory", "wait", "alone"] (defScope s_look_at) := ⟨rfl, rfl, rfl, by decide +kernel, rfl, by decide +kernel, by decide +kernel⟩
theorem ok_look_at (T : Txt mg) (G_look_late : Cal P w K mg base 5 "look_late" ["rule", "memory", "wait", "alone"] f_look_late) {a : Addr} {fd : FuncData} (F : FunD K "look_at" "look_at" (defArgs s_look_at) (defBody s_look_at) (defScope s_look_at) [] [] a fd) (hb : Binds K fd ["rule", "memory", "wait", "alone"] []) (hm : mg "look_at" = some (.ref a)) : Cal P w K mg base 6 "look_at" ["rule", "memory", "wait", "alone"] f_look_at := by
  refine cal_of F sc_look_at hb hm (fun ss cs Ed Q h => ?_) (fun cdv A outer s H E hr => (q_scons (q_ifS (q_tcmp (op_eqD hr.units) sr_eq (q_ixV 0 (pv 0) q_int) q_str)
      (q_sone (q_ret (q_call G_look_late (hr.mono (by decide)) (passes_call (takes_of rfl rfl rfl rfl) fun _ _ _ _ h => h) (q_consV 0 (pv 0) (q_consV 1 (pv 1) (q_consV 2 (pv 2) (q_consV 3 (pv 3) q_nil)))))))
      q_snil)
      (q_sone (q_ret (q_tup (q_consV 1 (pv 1) (q_cons q_bl q_nil))))))) ?_
  · obtain ⟨_, _, _, _, rfl, _⟩ := h; rfl
  intro ss cs Ed Qd h
  obtain ⟨R, M, w, al, rfl, hM, hw, h⟩ := h
  cases hM with
  | late hr hm => exact ⟨rfl, _, _, rfl, rfl, shL, shL, ifT sLL ⟨_, _, w, al, rfl, hr, hm, h⟩⟩
  | share hr hm => exact ⟨rfl, _, _, rfl, rfl, shS, shL, ifF sSL ⟨le_line (show 2 ≤ 100000 by decide), h⟩⟩
  | none => exact ⟨rfl, _, _, rfl, rfl, shN, shL, ifF sNL ⟨le_line (show 2 ≤ 100000 by decide), h⟩⟩

end
end Law

namespace Law
open PySem PySem.Spec PyProof.Rows L2 Kp
abbrev s_turn_credit : Stmt := topS 59
abbrev s_come_to : Stmt := topS 61
abbrev s_renew_lane : Stmt := topS 63
abbrev s_pass_lane : Stmt := topS 64
abbrev s_fits_piece : Stmt := topS 65
abbrev s_is_stream : Stmt := topS 52
abbrev s_fits_lane : Stmt := topS 60
abbrev s_check_stream : Stmt := topS 66
abbrev s_is_lane : Stmt := topS 53
abbrev s_empty_lane : Stmt := topS 54
abbrev s_go_out : Stmt := topS 62
abbrev s_check_lane : Stmt := topS 67
abbrev s_put_in : Stmt := topS 55
abbrev s_head_out : Stmt := topS 56
abbrev s_lane_renewed : Stmt := topS 57
abbrev s_lane_passed : Stmt := topS 58

/-! ### streams, pieces, lanes -/
structure Lay (x : PyData) (dp : Nat) : Prop where
  c : x.canLay0 = true
  d : x.depth ≤ dp
structure LayA (ds : List PyData) (dp : Nat) : Prop where
  c : PyData.canLayAll0 ds = true
  d : PyData.depthAll ds ≤ dp
theorem Lay.shaped {x : PyData} {dp : Nat} (h : Lay x dp) (h1 : dp ≤ 64) : SeqAt.shaped x = true := by
  show (x.canLay0 && decide (x.depth ≤ 64)) = true
  rw [h.c, decide_eq_true (show x.depth ≤ 64 by have := h.d; omega)]; rfl
theorem Lay.eqv {x : PyData} {dp : Nat} (h : Lay x dp) : PyData.eqv x x = true := SeqAt.eqv_refl x h.c
theorem Lay.int {i : Int} {dp : Nat} : Lay (.int i) dp := ⟨rfl, Nat.zero_le _⟩
theorem Lay.bool {i : Bool} {dp : Nat} : Lay (.bool i) dp := ⟨rfl, Nat.zero_le _⟩
theorem Lay.none {dp : Nat} : Lay .none dp := ⟨rfl, Nat.zero_le _⟩
theorem LayA.nil {dp : Nat} : LayA [] dp := ⟨rfl, Nat.zero_le _⟩
theorem LayA.cons {x : PyData} {ds : List PyData} {dp : Nat} (h : Lay x dp) (t : LayA ds dp) : LayA (x :: ds) dp := by
  refine ⟨?_, ?_⟩
  · simp only [PyData.canLayAll0, h.c, t.c]; rfl
  · show max (PyData.depth x) (PyData.depthAll ds) ≤ dp
    exact Nat.max_le.mpr ⟨h.d, t.d⟩
theorem LayA.app {dp : Nat} : ∀ {xs ys : List PyData}, LayA xs dp → LayA ys dp → LayA (xs ++ ys) dp
  | [], _, _, h => h
  | x :: xs, ys, h, k => by
    have c := h.c
    simp only [PyData.canLayAll0, Bool.and_eq_true] at c
    have d : max (PyData.depth x) (PyData.depthAll xs) ≤ dp := h.d
    exact LayA.cons ⟨c.1, Nat.le_trans (Nat.le_max_left _ _) d⟩ (LayA.app ⟨c.2, Nat.le_trans (Nat.le_max_right _ _) d⟩ k)
theorem Lay.tuple {ds : List PyData} {dp : Nat} (h : LayA ds dp) : Lay (.tuple ds) (dp + 1) := by
  have e : PyData.depth (.tuple ds) = PyData.depthAll ds + 1 := by simp only [PyData.depth]
  exact ⟨by simp only [PyData.canLay0, h.c], by rw [e]; have := h.d; omega⟩
structure St where
  w : Int
  R : Ru
  lim : Int
def St.d (s : St) : PyData := .tuple [.int s.w, s.R.d, .int s.lim]
structure St.Ok (s : St) : Prop where
  w : 1 ≤ s.w ∧ s.w ≤ 9
  R : s.R.Ok
  lim : 1 ≤ s.lim ∧ s.lim ≤ 99
structure Pc where
  sz : Int
  can : Bool
  mkd : Bool
  wt : Int
def Pc.d (p : Pc) : PyData := .tuple [.int p.sz, .bool p.can, .bool p.mkd, .int p.wt]
structure Pc.Ok (p : Pc) : Prop where
  sz : 1 ≤ p.sz ∧ p.sz ≤ 9
  mkd : p.mkd = true → p.can = true
  wt : 0 ≤ p.wt ∧ p.wt ≤ 1000000
def pcs (ps : List Pc) : List PyData := ps.map Pc.d
structure Ln where
  cr : Int
  ps : List Pc
  M : Me
def Ln.d (l : Ln) : PyData := .tuple [.int l.cr, .tuple (pcs l.ps), l.M.d]
def wtsOk (ps : List Pc) : Prop := (ps.map Pc.wt).Pairwise (· ≥ ·)
structure Ln.Ok (s : St) (l : Ln) : Prop where
  cr : 0 ≤ l.cr ∧ l.cr ≤ 9 * s.w + 8
  emp : l.ps = [] → l.cr = 0
  len : (l.ps.length : Int) ≤ s.lim
  ps : ∀ p ∈ l.ps, p.Ok
  wts : wtsOk l.ps
  M : RM s.R l.M
theorem Pc.lay (p : Pc) : Lay p.d 1 := Lay.tuple (.cons .int (.cons .bool (.cons .bool (.cons .int .nil))))
theorem pcs_lay : ∀ ps : List Pc, LayA (pcs ps) 1
  | [] => .nil
  | p :: r => .cons p.lay (pcs_lay r)
theorem Me.layA {R : Ru} {M : Me} (h : RM R M) : LayA M.l 0 := by
  have o : ∀ a : Option Int, Lay (oD a) 0 := fun a => by cases a <;> exact ⟨rfl, Nat.zero_le _⟩
  cases h with
  | none => exact .nil
  | late hr hm => exact .cons (o _) (.cons (o _) (.cons .int .nil))
  | share hr hm => exact .cons .int (.cons .int (.cons .int (.cons .int .nil)))
theorem Ln.lay {s : St} {l : Ln} (h : l.Ok s) : Lay l.d 3 := by
  refine Lay.tuple (dp := 2) (.cons .int (.cons (Lay.tuple (pcs_lay l.ps)) (.cons ?_ .nil)))
  have z : Lay l.M.d 1 := Lay.tuple (Me.layA h.M)
  exact ⟨z.c, Nat.le_trans z.d (by decide)⟩
theorem pcs_len (ps : List Pc) : (pcs ps).length = ps.length := List.length_map _
theorem pcs_at {ps : List Pc} {t : Nat} (h : t < ps.length) : nth (pcs ps) t = (ps[t]).d := by
  unfold nth pcs
  rw [List.getD_eq_getElem?_getD, List.getElem?_map, List.getElem?_eq_getElem h]; rfl
theorem same_sorted : ∀ {a b : List Int}, a.Perm b → a.Pairwise (· ≥ ·) → b.Pairwise (· ≥ ·) → a = b
  | [], b, h, _, _ => by rw [List.nil_perm.mp h]
  | x :: r, [], h, _, _ => by have := h.length_eq; simp at this
  | x :: r, y :: q, h, ha, hb => by
    obtain ⟨a1, a2⟩ := List.pairwise_cons.mp ha
    obtain ⟨b1, b2⟩ := List.pairwise_cons.mp hb
    have e : x = y := by
      have m1 : x ∈ y :: q := h.mem_iff.mp List.mem_cons_self
      have m2 : y ∈ x :: r := h.mem_iff.mpr List.mem_cons_self
      rcases List.mem_cons.mp m1 with z | z
      · exact z
      · rcases List.mem_cons.mp m2 with u | u
        · exact u.symm
        · have := a1 y u
          have := b1 x z
          omega
    subst e
    rw [same_sorted (List.perm_cons x |>.mp h) a2 b2]
/-- a comer comes -/
def comeL (s : St) (l : Ln) (sz : Int) (can : Bool) : Ln × Str := if (l.ps.length : Int) = s.lim then (l, "full") else
  if (comeR l.M).2 = true ∧ can = false then (⟨l.cr, l.ps, (comeR l.M).1⟩, "drop") else
  (⟨l.cr, l.ps ++ [⟨sz, can, (comeR l.M).2, 0⟩], (comeR l.M).1⟩, if (comeR l.M).2 = true then "mark" else "come")
/-- a head goes out -/
def outW (st : Bool) (p : Pc) : Str := if st = true ∧ p.can = false then "drop" else if st = true ∨ p.mkd = true then "bell" else "send"
def outL (s : St) (l : Ln) (p : Pc) (r : List Pc) : Ln × Str := (⟨if r.length = 0 then 0 else l.cr, r, (lookR s.R l.M p.wt (decide (r.length = 0))).1⟩, outW (lookR s.R l.M p.wt (decide (r.length = 0))).2 p)
def headW : List Pc → Int
  | [] => 0
  | p :: _ => p.wt
def renewLn (s : St) (l : Ln) : Ln := ⟨l.cr, l.ps, renewR s.R l.M (headW l.ps)⟩
def Pc.older (p : Pc) : Pc := ⟨p.sz, p.can, p.mkd, if 1000000 < p.wt + 1 then 1000000 else p.wt + 1⟩
def passLn (s : St) (l : Ln) : Ln := ⟨l.cr, l.ps.map Pc.older, passR s.R l.M⟩
theorem Pc.older_ok {p : Pc} (h : p.Ok) : p.older.Ok := ⟨h.sz, h.mkd, by have := h.wt; show 0 ≤ (if 1000000 < p.wt + 1 then 1000000 else p.wt + 1) ∧ (if 1000000 < p.wt + 1 then 1000000 else p.wt + 1) ≤ 1000000; split <;> omega⟩
theorem comeL_ok {s : St} {l : Ln} {sz : Int} {can : Bool} (hs : s.Ok) (h : l.Ok s) (hz : 1 ≤ sz ∧ sz ≤ 9) : (comeL s l sz can).1.Ok s := by
  have hM := comeR_ok h.M
  unfold comeL
  split
  · exact h
  · rename_i nf
    split
    · exact ⟨h.cr, h.emp, h.len, h.ps, h.wts, hM⟩
    · rename_i nd
      refine ⟨h.cr, fun z => by simp at z, ?_, ?_, ?_, hM⟩
      · show ((l.ps ++ [_]).length : Int) ≤ s.lim
        rw [List.length_append]
        have := h.len
        simp only [List.length_cons, List.length_nil]
        omega
      · intro p hp
        rcases List.mem_append.mp hp with q | q
        · exact h.ps p q
        · rw [List.mem_singleton.mp q]
          refine ⟨hz, fun e => ?_, by show (0 : Int) ≤ 0 ∧ (0 : Int) ≤ 1000000; omega⟩
          cases can with
          | true => rfl
          | false => exact absurd ⟨e, rfl⟩ nd
      · show ((l.ps ++ [_]).map Pc.wt).Pairwise (· ≥ ·)
        rw [List.map_append, List.pairwise_append]
        refine ⟨h.wts, List.pairwise_singleton _ _, fun a ha b hb => ?_⟩
        obtain ⟨p, hp, rfl⟩ := List.mem_map.mp ha
        have e : b = 0 := List.mem_singleton.mp hb
        subst e
        exact (h.ps p hp).wt.1
theorem outL_ok {s : St} {l : Ln} {p : Pc} {r : List Pc} (hs : s.Ok) (h : l.Ok s) (e : l.ps = p :: r) : (outL s l p r).1.Ok s := by
  have hw := h.wts
  have hp := h.ps
  have hl := h.len
  unfold wtsOk at hw
  rw [e] at hw hp hl
  have hM : RM s.R (outL s l p r).1.M := lookR_ok h.M
  refine ⟨?_, fun z => ?_, ?_, fun q hq => hp q (List.mem_cons_of_mem _ hq), (List.pairwise_cons.mp hw).2, hM⟩
  · show 0 ≤ (if r.length = 0 then 0 else l.cr) ∧ (if r.length = 0 then 0 else l.cr) ≤ 9 * s.w + 8
    have := h.cr
    have := hs.w
    split <;> omega
  · have z' : r = [] := z
    show (if r.length = 0 then 0 else l.cr) = 0
    rw [z']
    exact if_pos rfl
  · show (r.length : Int) ≤ s.lim
    rw [List.length_cons] at hl
    omega
theorem headW_ok {s : St} {l : Ln} (h : l.Ok s) : 0 ≤ headW l.ps ∧ headW l.ps ≤ 1000000 := by
  cases e : l.ps with
  | nil => exact ⟨by decide, by decide⟩
  | cons p r => exact (h.ps p (by rw [e]; exact List.mem_cons_self)).wt
theorem renewLn_ok {s : St} {l : Ln} (h : l.Ok s) : (renewLn s l).Ok s := ⟨h.cr, h.emp, h.len, h.ps, h.wts, renewR_ok (headW_ok h).1 h.M⟩
theorem older_wts : ∀ {ps : List Pc}, wtsOk ps → wtsOk (ps.map Pc.older)
  | [], _ => List.Pairwise.nil
  | p :: r, h => by
    obtain ⟨a, b⟩ := List.pairwise_cons.mp h
    refine List.pairwise_cons.mpr ⟨fun x hx => ?_, older_wts b⟩
    rw [List.map_map] at hx
    obtain ⟨q, hq, rfl⟩ := List.mem_map.mp hx
    have := a q.wt (List.mem_map_of_mem hq)
    show (if 1000000 < p.wt + 1 then 1000000 else p.wt + 1) ≥ (if 1000000 < q.wt + 1 then 1000000 else q.wt + 1)
    split <;> split <;> omega
theorem passLn_ok {s : St} {l : Ln} (h : l.Ok s) : (passLn s l).Ok s := by
  refine ⟨h.cr, fun z => h.emp (List.map_eq_nil_iff.mp z), ?_, fun p hp => ?_, older_wts h.wts, passR_ok h.M⟩
  · show ((l.ps.map Pc.older).length : Int) ≤ s.lim
    rw [List.length_map]; exact h.len
  · obtain ⟨q, hq, rfl⟩ := List.mem_map.mp hp
    exact Pc.older_ok (h.ps q hq)
theorem reps : ∀ n, List.replicate n (PyData.bool true) = (List.replicate n true).map .bool
  | n => by rw [List.map_replicate]
theorem allT : ∀ n, (List.replicate n true).all id = true
  | 0 => rfl
  | n + 1 => by rw [List.replicate_succ, List.all_cons, allT n]; rfl
theorem take_snoc {α β : Type} (f : α → β) {xs : List α} {t : Nat} (h : t < xs.length) : (xs.take t).map f ++ [f xs[t]] = (xs.take (t + 1)).map f := by
  rw [List.take_succ_eq_append_getElem h, List.map_append]; rfl
section
variable {P : Program} {w : World} {K : Frag} {mg : Str → Option Value} {base : Heap}
/-! turn_credit -/
def f_turn_credit : FD := fun ss cs _ Q => ∃ s : St, ss = [.d s.d] ∧ s.Ok ∧ Q (.int (9 * s.w)) cs
theorem sc_turn_credit : FnScope ["stream"] ["stream"] (defScope s_turn_credit) := ⟨rfl, rfl, rfl, by decide +kernel, rfl, by decide +kernel, by decide +kernel⟩
theorem ok_turn_credit (T : Txt mg) {a : Addr} {fd : FuncData} (F : FunD K "turn_credit" "turn_credit" (defArgs s_turn_credit) (defBody s_turn_credit) (defScope s_turn_credit) [] [] a fd) (hb : Binds K fd ["stream"] []) (hm : mg "turn_credit" = some (.ref a)) : Cal P w K mg base 1 "turn_credit" ["stream"] f_turn_credit := by
  refine cal_of F sc_turn_credit hb hm (fun ss cs Ed Q h => ?_) (fun cdv A outer s H E hr => (q_sone (q_ret (q_bin op_times sr_times (q_globI T.i_MOST_SIZE) (q_ixV 0 (pv 0) q_int))))) ?_
  · obtain ⟨_, rfl, _⟩ := h; rfl
  intro ss cs Ed Qd h
  obtain ⟨s, rfl, hs, h⟩ := h
  exact ⟨rfl, _, _, rfl, rfl, .inl ⟨by decide, by decide⟩, h⟩

/-! come_to -/
def f_come_to : FD := fun ss cs _ Q => ∃ (s : St) (l : Ln) (sz : Int) (can : Bool), ss = [.d s.d, .d l.d, .d (.int sz), .d (.bool can)] ∧ s.Ok ∧ l.Ok s ∧ (1 ≤ sz ∧ sz ≤ 9) ∧ Q (.tuple [(comeL s l sz can).1.d, .str (comeL s l sz can).2]) cs
theorem sc_come_to : FnScope ["stream", "lane", "size", "can", "credit", "pieces", "memory", "struck", "word"] ["stream", "lane", "size", "can"] (defScope s_come_to) := ⟨rfl, rfl, rfl, by decide +kernel, rfl, by decide +kernel, by decide +kernel⟩
theorem ok_come_to (T : Txt mg) (G_come_by : Cal P w K mg base 2 "come_by" ["rule", "memory"] f_come_by) {a : Addr} {fd : FuncData} (F : FunD K "come_to" "come_to" (defArgs s_come_to) (defBody s_come_to) (defScope s_come_to) [] [] a fd) (hb : Binds K fd ["stream", "lane", "size", "can"] []) (hm : mg "come_to" = some (.ref a)) : Cal P w K mg base 3 "come_to" ["stream", "lane", "size", "can"] f_come_to := by
  refine cal_of F sc_come_to hb hm (fun ss cs Ed Q h => ?_) (fun cdv A outer s H E hr => (q_scons (q_unp [4, 5, 6] rfl (pgs_cons (pg_name (i := 4) sc_come_to.nd rfl (by first | exact Or.inl rfl | exact Or.inr rfl)) (pgs_cons (pg_name (i := 5) sc_come_to.nd rfl (by first | exact Or.inl rfl | exact Or.inr rfl)) (pgs_cons (pg_name (i := 6) sc_come_to.nd rfl (by first | exact Or.inl rfl | exact Or.inr rfl)) pgs_nil))) (q_var 1))
      (q_scons (q_ifS (q_tcmp (op_eqD hr.units) sr_eq (q_lenV 5 (pv 5) T.f_len) (q_ixV 0 (pv 0) q_int))
      (q_sone (q_ret (q_tup (q_consV 1 (pv 1) (q_cons q_str q_nil)))))
      q_snil)
      (q_scons (q_unp [6, 7] rfl (pgs_cons (pg_name (i := 6) sc_come_to.nd rfl (by first | exact Or.inl rfl | exact Or.inr rfl)) (pgs_cons (pg_name (i := 7) sc_come_to.nd rfl (by first | exact Or.inl rfl | exact Or.inr rfl)) pgs_nil)) (q_call G_come_by (hr.mono (by decide)) (passes_call (takes_of rfl rfl rfl rfl) fun _ _ _ _ h => h) (q_cons (q_ixV 0 (pv 0) q_int) (q_consV 6 (pv 6) q_nil))))
      (q_scons (q_ifS (q_w (q_and (q_tv (q_var 7)) (q_and1 (q_not (q_tv (q_var 3))))))
      (q_sone (q_ret (q_tup (q_cons (q_tup (q_consV 4 (pv 4) (q_consV 5 (pv 5) (q_consV 6 (pv 6) q_nil)))) (q_cons q_str q_nil)))))
      q_snil)
      (q_scons (q_set 8 sc_come_to.nd (q_if (q_tv (q_var 7)) q_str q_str))
      (q_sone (q_ret (q_tup (q_cons (q_tup (q_consV 4 (pv 4) (q_cons (q_tupS (q_var 5) (q_cons (q_tup (q_consV 2 (pv 2) (q_consV 3 (pv 3) (q_consV 7 (pv 7) (q_cons q_int q_nil))))) q_nil)) (q_consV 6 (pv 6) q_nil)))) (q_consV 8 (pv 8) q_nil))))))))))) ?_
  · obtain ⟨_, _, _, _, rfl, _⟩ := h; rfl
  intro ss cs Ed Qd h
  obtain ⟨s, ⟨cr, ps, M⟩, sz, can, rfl, hs, hl, hz, h⟩ := h
  have l2 := le_line (show 2 ≤ 100000 by decide)
  have l3 := le_line (show 3 ≤ 100000 by decide)
  have hlen : (ps.length : Int) ≤ s.lim := hl.len
  have hlim := hs.lim
  have hM : RM s.R M := hl.M
  unfold comeL at h
  refine ⟨_, rfl, _, rfl, rfl, _, _, rfl, rfl, rfl, rfl, if2 (fun q => ?_) fun q => ?_⟩
  · have q' : (ps.length : Int) = s.lim := by rw [eqv_int, pcs_len] at q; exact dT' q
    rw [if_pos q'] at h
    exact ⟨l2, h⟩
  have q' : ¬ (ps.length : Int) = s.lim := by rw [eqv_int, pcs_len] at q; exact dF' q
  rw [if_neg q'] at h
  refine ⟨rfl, _, _, rfl, rfl, s.R, M, rfl, hM, ?_⟩
  have h' : Qd (.tuple [(if (comeR M).2 = true ∧ can = false then ((⟨cr, ps, (comeR M).1⟩ : Ln), ("drop" : Str)) else (⟨cr, ps ++ [⟨sz, can, (comeR M).2, 0⟩], (comeR M).1⟩, if (comeR M).2 = true then "mark" else "come")).1.d, .str (if (comeR M).2 = true ∧ can = false then ((⟨cr, ps, (comeR M).1⟩ : Ln), ("drop" : Str)) else (⟨cr, ps ++ [⟨sz, can, (comeR M).2, 0⟩], (comeR M).1⟩, if (comeR M).2 = true then "mark" else "come")).2]) cs := h
  clear h
  generalize (comeR M).1 = M' at *
  generalize (comeR M).2 = st at *
  have e : pcs (ps ++ [⟨sz, can, st, 0⟩]) = pcs ps ++ [Pc.d ⟨sz, can, st, 0⟩] := by unfold pcs; rw [List.map_append]; rfl
  refine ⟨_, rfl, ?_⟩
  cases st with
  | true =>
    cases can with
    | false =>
      rw [if_pos ⟨rfl, rfl⟩] at h'
      exact ⟨l3, l2, h'⟩
    | true =>
      rw [if_neg (fun z => by cases z.2)] at h'
      have h2 : Qd (.tuple [.tuple [.int cr, .tuple (pcs (ps ++ [⟨sz, true, true, 0⟩])), M'.d], .str "mark"]) cs := h'
      rw [e] at h2
      exact ⟨le_line (show 4 ≤ 100000 by decide), le_line (show (pcs ps).length + 1 ≤ 100000 by rw [pcs_len]; omega), l3, l2, h2⟩
  | false =>
    rw [if_neg (fun z => by cases z.1)] at h'
    have h2 : Qd (.tuple [.tuple [.int cr, .tuple (pcs (ps ++ [⟨sz, can, false, 0⟩])), M'.d], .str "come"]) cs := h'
    rw [e] at h2
    exact ⟨le_line (show 4 ≤ 100000 by decide), le_line (show (pcs ps).length + 1 ≤ 100000 by rw [pcs_len]; omega), l3, l2, h2⟩

/-! renew_lane -/
def f_renew_lane : FD := fun ss cs _ Q => ∃ (s : St) (l : Ln), ss = [.d s.d, .d l.d] ∧ s.Ok ∧ l.Ok s ∧ Q (renewLn s l).d cs
theorem sc_renew_lane : FnScope ["stream", "lane", "credit", "pieces", "memory", "wait"] ["stream", "lane"] (defScope s_renew_lane) := ⟨rfl, rfl, rfl, by decide +kernel, rfl, by decide +kernel, by decide +kernel⟩
theorem ok_renew_lane (T : Txt mg) (G_renew_by : Cal P w K mg base 2 "renew_by" ["rule", "memory", "wait"] f_renew_by) {a : Addr} {fd : FuncData} (F : FunD K "renew_lane" "renew_lane" (defArgs s_renew_lane) (defBody s_renew_lane) (defScope s_renew_lane) [] [] a fd) (hb : Binds K fd ["stream", "lane"] []) (hm : mg "renew_lane" = some (.ref a)) : Cal P w K mg base 3 "renew_lane" ["stream", "lane"] f_renew_lane := by
  refine cal_of F sc_renew_lane hb hm (fun ss cs Ed Q h => ?_) (fun cdv A outer s H E hr => (q_scons (q_unp [2, 3, 4] rfl (pgs_cons (pg_name (i := 2) sc_renew_lane.nd rfl (by first | exact Or.inl rfl | exact Or.inr rfl)) (pgs_cons (pg_name (i := 3) sc_renew_lane.nd rfl (by first | exact Or.inl rfl | exact Or.inr rfl)) (pgs_cons (pg_name (i := 4) sc_renew_lane.nd rfl (by first | exact Or.inl rfl | exact Or.inr rfl)) pgs_nil))) (q_var 1))
      (q_scons (q_set 5 sc_renew_lane.nd (q_if (q_tcmp op_gt sr_gt (q_lenV 3 (pv 3) T.f_len) q_int) (q_ix (q_ixV 3 (pv 3) q_int) q_int) q_int))
      (q_sone (q_ret (q_tup (q_consV 2 (pv 2) (q_consV 3 (pv 3) (q_cons (q_call G_renew_by (hr.mono (by decide)) (passes_call (takes_of rfl rfl rfl rfl) fun _ _ _ _ h => h) (q_cons (q_ixV 0 (pv 0) q_int) (q_consV 4 (pv 4) (q_consV 5 (pv 5) q_nil)))) q_nil))))))))) ?_
  · obtain ⟨_, _, rfl, _⟩ := h; rfl
  intro ss cs Ed Qd h
  obtain ⟨s, ⟨cr, ps, M⟩, rfl, hs, hl, h⟩ := h
  have hw := headW_ok hl
  have hM : RM s.R M := hl.M
  have l3 := le_line (show 3 ≤ 100000 by decide)
  refine ⟨_, rfl, ?_⟩
  dsimp only [DN.push, dNext]
  refine d_mid (fun ρ' cs' => ρ' = [.d s.d, .d (Ln.d ⟨cr, ps, M⟩), .d (.int cr), .d (.tuple (pcs ps)), .d M.d, .d (.int (headW ps))] ∧ cs' = cs) (fun D1 _ _ hN => ?_) ?_
  · cases ps with
    | nil => exact ⟨_, rfl, hN _ _ ⟨rfl, rfl⟩⟩
    | cons p r => exact ⟨_, rfl, ifDT (by rw [pcs_len]; simp only [List.length_cons]; omega) ⟨rfl, _, p.d, rfl, at_data (by decide) rfl, _, rfl, hN _ _ ⟨rfl, rfl⟩⟩⟩
  rintro ρ cs2 ⟨rfl, rfl⟩
  exact ⟨rfl, _, _, rfl, rfl, s.R, M, headW ps, rfl, hM, hw, l3, h⟩

/-! pass_lane -/
def f_pass_lane : FD := fun ss cs _ Q => ∃ (s : St) (l : Ln), ss = [.d s.d, .d l.d] ∧ s.Ok ∧ l.Ok s ∧ Q (passLn s l).d cs
theorem sc_pass_lane : FnScope ["stream", "lane", "credit", "pieces", "memory", "older", "size", "can", "marked", "wait"] ["stream", "lane"] (defScope s_pass_lane) := ⟨rfl, rfl, rfl, by decide +kernel, rfl, by decide +kernel, by decide +kernel⟩
theorem ok_pass_lane (T : Txt mg) (G_pass_by : Cal P w K mg base 2 "pass_by" ["rule", "memory"] f_pass_by) {a : Addr} {fd : FuncData} (F : FunD K "pass_lane" "pass_lane" (defArgs s_pass_lane) (defBody s_pass_lane) (defScope s_pass_lane) [] [] a fd) (hb : Binds K fd ["stream", "lane"] []) (hm : mg "pass_lane" = some (.ref a)) : Cal P w K mg base 3 "pass_lane" ["stream", "lane"] f_pass_lane := by
  refine cal_of F sc_pass_lane hb hm (fun ss cs Ed Q h => ?_) (fun cdv A outer s H E hr => (q_scons (q_unp [2, 3, 4] rfl (pgs_cons (pg_name (i := 2) sc_pass_lane.nd rfl (by first | exact Or.inl rfl | exact Or.inr rfl)) (pgs_cons (pg_name (i := 3) sc_pass_lane.nd rfl (by first | exact Or.inl rfl | exact Or.inr rfl)) (pgs_cons (pg_name (i := 4) sc_pass_lane.nd rfl (by first | exact Or.inl rfl | exact Or.inr rfl)) pgs_nil))) (q_var 1))
      (q_scons (q_set 5 sc_pass_lane.nd (q_ct call_tuple_of sc_tuple T.f_tuple boot_tuple' (q_cons (q_ofN (q_lcT (own := [("size", 6), ("can", 7), ("marked", 8), ("wait", 9)]) rfl sc_pass_lane.nd (qi_seq (q_var 3)) (blkOk_by (N := ["stream", "lane", "credit", "pieces", "memory", "older", "size", "can", "marked", "wait"]) (sc := defScope s_pass_lane) (by decide +kernel)) (fun _ _ _ _ _ => pg_tup rfl (pgs_cons (pg_name (i := 6) sc_pass_lane.nd rfl (by first | exact Or.inl rfl | exact Or.inr rfl)) (pgs_cons (pg_name (i := 7) sc_pass_lane.nd rfl (by first | exact Or.inl rfl | exact Or.inr rfl)) (pgs_cons (pg_name (i := 8) sc_pass_lane.nd rfl (by first | exact Or.inl rfl | exact Or.inr rfl)) (pgs_cons (pg_name (i := 9) sc_pass_lane.nd rfl (by first | exact Or.inl rfl | exact Or.inr rfl)) pgs_nil))))) (fun _ _ _ _ _ => (q_tup (q_consV 6 (pv 6) (q_consV 7 (pv 7) (q_consV 8 (pv 8) (q_cons (q_cb (call_min2 rfl) sc_min2 T.f_min (by decide +kernel) (q_cons (q_bin op_plus sr_plus (q_var 9) q_int) (q_cons (q_globI T.i_MOST_WAIT) q_nil))) q_nil)))))))) q_nil)))
      (q_sone (q_ret (q_tup (q_consV 2 (pv 2) (q_consV 5 (pv 5) (q_cons (q_call G_pass_by (hr.mono (by decide)) (passes_call (takes_of rfl rfl rfl rfl) fun _ _ _ _ h => h) (q_cons (q_ixV 0 (pv 0) q_int) (q_consV 4 (pv 4) q_nil))) q_nil))))))))) ?_
  · obtain ⟨_, _, rfl, _⟩ := h; rfl
  intro ss cs Ed Qd h
  obtain ⟨s, ⟨cr, ps, M⟩, rfl, hs, hl, h⟩ := h
  have hM : RM s.R M := hl.M
  have hlen : (ps.length : Int) ≤ s.lim := hl.len
  have hlim := hs.lim
  have l3 := le_line (show 3 ≤ 100000 by decide)
  refine ⟨_, rfl, fun t acc cs' => acc = (ps.take t).map (fun p => p.older.d) ∧ cs' = cs, ⟨rfl, rfl⟩, ?_, ?_⟩
  · rintro t acc cs' ht ⟨rfl, rfl⟩
    have ht' : t < ps.length := by rw [← pcs_len]; exact ht
    rw [pcs_at ht']
    refine ⟨_, rfl, le_line (show 4 ≤ 100000 by decide), lt_line (by rw [List.length_map, List.length_take]; omega), ?_, rfl⟩
    exact take_snoc (fun p : Pc => p.older.d) ht'
  · rintro acc cs' ⟨rfl, rfl⟩
    rw [pcs_len, List.take_length]
    have e : ps.map (fun p => p.older.d) = pcs (ps.map Pc.older) := by unfold pcs; rw [List.map_map]; rfl
    rw [e]
    exact ⟨rfl, _, _, rfl, rfl, s.R, M, rfl, hM, l3, h⟩

/-! _fits_piece -/
def f_fits_piece : FD := fun ss cs _ Q => ∃ p : Pc, ss = [.d p.d] ∧ p.Ok ∧ Q (.bool true) cs
theorem sc_fits_piece : FnScope ["thing", "size", "can", "marked", "wait"] ["thing"] (defScope s_fits_piece) := ⟨rfl, rfl, rfl, by decide +kernel, rfl, by decide +kernel, by decide +kernel⟩
theorem ok_fits_piece (T : Txt mg) (G_is_within : Cal P w K mg base 2 "is_within" ["thing", "low", "high"] f_is_within) {a : Addr} {fd : FuncData} (F : FunD K "_fits_piece" "_fits_piece" (defArgs s_fits_piece) (defBody s_fits_piece) (defScope s_fits_piece) [] [] a fd) (hb : Binds K fd ["thing"] []) (hm : mg "_fits_piece" = some (.ref a)) : Cal P w K mg base 3 "_fits_piece" ["thing"] f_fits_piece := by
  refine cal_of F sc_fits_piece hb hm (fun ss cs Ed Q h => ?_) (fun cdv A outer s H E hr => (q_scons (q_ifS (q_w (q_or (q_not (q_tv (q_isi "tuple" (q_var 0) T.f_isinstance T.f_tuple (by decide +kernel)))) (q_or1 (q_tcmp (op_neD hr.units) sr_ne (q_lenV 0 (pv 0) T.f_len) q_int))))
      (q_sone (q_ret q_bl))
      q_snil)
      (q_scons (q_unp [1, 2, 3, 4] rfl (pgs_cons (pg_name (i := 1) sc_fits_piece.nd rfl (by first | exact Or.inl rfl | exact Or.inr rfl)) (pgs_cons (pg_name (i := 2) sc_fits_piece.nd rfl (by first | exact Or.inl rfl | exact Or.inr rfl)) (pgs_cons (pg_name (i := 3) sc_fits_piece.nd rfl (by first | exact Or.inl rfl | exact Or.inr rfl)) (pgs_cons (pg_name (i := 4) sc_fits_piece.nd rfl (by first | exact Or.inl rfl | exact Or.inr rfl)) pgs_nil)))) (q_var 0))
      (q_scons (q_ifS (q_w (q_or (q_not (q_tv (q_isi "bool" (q_var 2) T.f_isinstance T.f_bool (by decide +kernel)))) (q_or (q_not (q_tv (q_isi "bool" (q_var 3) T.f_isinstance T.f_bool (by decide +kernel)))) (q_or1 (q_w (q_and (q_tv (q_var 3)) (q_and1 (q_not (q_tv (q_var 2))))))))))
      (q_sone (q_ret q_bl))
      q_snil)
      (q_sone (q_ret (q_vand (q_call G_is_within (hr.mono (by decide)) (passes_call (takes_of rfl rfl rfl rfl) fun _ _ _ _ h => h) (q_consV 1 (pv 1) (q_cons q_int (q_cons (q_globI T.i_MOST_SIZE) q_nil)))) (q_v1 (q_call G_is_within (hr.mono (by decide)) (passes_call (takes_of rfl rfl rfl rfl) fun _ _ _ _ h => h) (q_consV 4 (pv 4) (q_cons q_int (q_cons (q_globI T.i_MOST_WAIT) q_nil)))))))))))) ?_
  · obtain ⟨_, rfl, _⟩ := h; rfl
  intro ss cs Ed Qd h
  obtain ⟨⟨sz, can, mk, wt⟩, rfl, hp, h⟩ := h
  have hmk := hp.mkd
  refine ⟨true, rfl, _, rfl, rfl, rfl, _, rfl, ?_⟩
  dsimp only [DN.push, dNext]
  refine d_mid (fun ρ' cs' => ρ' = [.d (Pc.d ⟨sz, can, mk, wt⟩), .d (.int sz), .d (.bool can), .d (.bool mk), .d (.int wt)] ∧ cs' = cs) (fun D1 _ _ hN => ?_) ?_
  · refine ⟨true, rfl, true, rfl, ?_⟩
    cases mk with
    | false => exact hN _ _ ⟨rfl, rfl⟩
    | true =>
      have hc : can = true := hmk rfl
      subst hc
      exact hN _ _ ⟨rfl, rfl⟩
  rintro ρ cs2 ⟨rfl, rfl⟩
  refine ⟨_, _, _, rfl, ifT (isWi_yes hp.sz) ⟨_, _, _, rfl, ?_⟩⟩
  exact Eq.mp (congrArg (fun b => Qd (.bool b) cs2) (isWi_yes hp.wt).symm) h

/-! is_stream -/
def f_is_stream : FD := fun ss cs _ Q => ∃ s : St, ss = [.d s.d] ∧ s.Ok ∧ Q (.bool true) cs
theorem sc_is_stream : FnScope ["thing", "weight", "rule", "limit"] ["thing"] (defScope s_is_stream) := ⟨rfl, rfl, rfl, by decide +kernel, rfl, by decide +kernel, by decide +kernel⟩
theorem ok_is_stream (T : Txt mg) (G_is_within : Cal P w K mg base 2 "is_within" ["thing", "low", "high"] f_is_within) (G_is_rule : Cal P w K mg base 4 "is_rule" ["thing"] f_is_rule) {a : Addr} {fd : FuncData} (F : FunD K "is_stream" "is_stream" (defArgs s_is_stream) (defBody s_is_stream) (defScope s_is_stream) [] [] a fd) (hb : Binds K fd ["thing"] []) (hm : mg "is_stream" = some (.ref a)) : Cal P w K mg base 5 "is_stream" ["thing"] f_is_stream := by
  refine cal_of F sc_is_stream hb hm (fun ss cs Ed Q h => ?_) (fun cdv A outer s H E hr => (q_scons (q_ifS (q_w (q_or (q_not (q_tv (q_isi "tuple" (q_var 0) T.f_isinstance T.f_tuple (by decide +kernel)))) (q_or1 (q_tcmp (op_neD hr.units) sr_ne (q_lenV 0 (pv 0) T.f_len) q_int))))
      (q_sone (q_ret q_bl))
      q_snil)
      (q_scons (q_unp [1, 2, 3] rfl (pgs_cons (pg_name (i := 1) sc_is_stream.nd rfl (by first | exact Or.inl rfl | exact Or.inr rfl)) (pgs_cons (pg_name (i := 2) sc_is_stream.nd rfl (by first | exact Or.inl rfl | exact Or.inr rfl)) (pgs_cons (pg_name (i := 3) sc_is_stream.nd rfl (by first | exact Or.inl rfl | exact Or.inr rfl)) pgs_nil))) (q_var 0))
      (q_sone (q_ret (q_vand (q_call G_is_within (hr.mono (by decide)) (passes_call (takes_of rfl rfl rfl rfl) fun _ _ _ _ h => h) (q_consV 1 (pv 1) (q_cons q_int (q_cons (q_globI T.i_MOST_WEIGHT) q_nil)))) (q_vand (q_call G_is_rule (hr.mono (by decide)) (passes_call (takes_of rfl rfl rfl rfl) fun _ _ _ _ h => h) (q_consV 2 (pv 2) q_nil)) (q_v1 (q_call G_is_within (hr.mono (by decide)) (passes_call (takes_of rfl rfl rfl rfl) fun _ _ _ _ h => h) (q_consV 3 (pv 3) (q_cons q_int (q_cons (q_globI T.i_MOST_LIMIT) q_nil)))))))))))) ?_
  · obtain ⟨_, rfl, _⟩ := h; rfl
  intro ss cs Ed Qd h
  obtain ⟨s, rfl, hs, h⟩ := h
  refine ⟨true, rfl, _, rfl, rfl, rfl, _, rfl, _, _, _, rfl, ?_⟩
  refine ifT (isWi_yes hs.w) ⟨s.R, rfl, hs.R, _, _, _, rfl, ?_⟩
  exact Eq.mp (congrArg (fun b => Qd (.bool b) cs) (isWi_yes hs.lim).symm) h

/-! fits_lane -/
def f_fits_lane : FD := fun ss cs _ Q => ∃ (s : St) (l : Ln), ss = [.d s.d, .d l.d] ∧ s.Ok ∧ l.Ok s ∧ Q (.bool true) cs
theorem sc_fits_lane : FnScope ["stream", "thing", "credit", "pieces", "memory", "waits", "piece"] ["stream", "thing"] (defScope s_fits_lane) := ⟨rfl, rfl, rfl, by decide +kernel, rfl, by decide +kernel, by decide +kernel⟩
theorem ok_fits_lane (T : Txt mg) (G_is_within : Cal P w K mg base 2 "is_within" ["thing", "low", "high"] f_is_within) (G_fits_memory : Cal P w K mg base 4 "fits_memory" ["rule", "thing"] f_fits_memory) (G_fits_piece : Cal P w K mg base 3 "_fits_piece" ["thing"] f_fits_piece) (G_turn_credit : Cal P w K mg base 1 "turn_credit" ["stream"] f_turn_credit) {a : Addr} {fd : FuncData} (F : FunD K "fits_lane" "fits_lane" (defArgs s_fits_lane) (defBody s_fits_lane) (defScope s_fits_lane) [] [] a fd) (hb : Binds K fd ["stream", "thing"] []) (hm : mg "fits_lane" = some (.ref a)) : Cal P w K mg base 5 "fits_lane" ["stream", "thing"] f_fits_lane := by
  refine cal_of F sc_fits_lane hb hm (fun ss cs Ed Q h => ?_) (fun cdv A outer s H E hr => (q_scons (q_ifS (q_w (q_or (q_not (q_tv (q_isi "tuple" (q_var 1) T.f_isinstance T.f_tuple (by decide +kernel)))) (q_or1 (q_tcmp (op_neD hr.units) sr_ne (q_lenV 1 (pv 1) T.f_len) q_int))))
      (q_sone (q_ret q_bl))
      q_snil)
      (q_scons (q_unp [2, 3, 4] rfl (pgs_cons (pg_name (i := 2) sc_fits_lane.nd rfl (by first | exact Or.inl rfl | exact Or.inr rfl)) (pgs_cons (pg_name (i := 3) sc_fits_lane.nd rfl (by first | exact Or.inl rfl | exact Or.inr rfl)) (pgs_cons (pg_name (i := 4) sc_fits_lane.nd rfl (by first | exact Or.inl rfl | exact Or.inr rfl)) pgs_nil))) (q_var 1))
      (q_scons (q_ifS (q_w (q_or (q_not (q_tv (q_call G_is_within (hr.mono (by decide)) (passes_call (takes_of rfl rfl rfl rfl) fun _ _ _ _ h => h) (q_consV 2 (pv 2) (q_cons q_int (q_cons (q_bin op_plus sr_plus (q_call G_turn_credit (hr.mono (by decide)) (passes_call (takes_of rfl rfl rfl rfl) fun _ _ _ _ h => h) (q_consV 0 (pv 0) q_nil)) (q_globI T.i_MOST_KEPT)) q_nil)))))) (q_or1 (q_not (q_tv (q_call G_fits_memory (hr.mono (by decide)) (passes_call (takes_of rfl rfl rfl rfl) fun _ _ _ _ h => h) (q_cons (q_ixV 0 (pv 0) q_int) (q_consV 4 (pv 4) q_nil))))))))
      (q_sone (q_ret q_bl))
      q_snil)
      (q_scons (q_ifS (q_w (q_or (q_not (q_tv (q_isi "tuple" (q_var 3) T.f_isinstance T.f_tuple (by decide +kernel)))) (q_or1 (q_tcmp op_gt sr_gt (q_lenV 3 (pv 3) T.f_len) (q_ixV 0 (pv 0) q_int)))))
      (q_sone (q_ret q_bl))
      q_snil)
      (q_scons (q_ifS (q_tcmp (op_eqD hr.units) sr_eq (q_lenV 3 (pv 3) T.f_len) q_int)
      (q_sone (q_ret (q_cmp (op_eqD hr.units) sr_eq (q_var 2) q_int)))
      q_snil)
      (q_scons (q_ifS (q_not (q_tv (q_cb (cr_all rfl) sc_all T.f_all (by decide +kernel) (q_cons (q_ofN (q_lc (x := "piece") 6 rfl sc_fits_lane.nd (qi_seq (q_var 3)) (blkOk_by (N := ["stream", "thing", "credit", "pieces", "memory", "waits", "piece"]) (sc := defScope s_fits_lane) (by decide +kernel)) (fun _ _ _ _ _ => (pg_name (i := 6) sc_fits_lane.nd rfl (by first | exact Or.inl rfl | exact Or.inr rfl))) (fun _ _ _ _ _ => (q_call G_fits_piece (hr.mono (by decide)) passL (q_consV 6 (pv 6) q_nil))))) q_nil))))
      (q_sone (q_ret q_bl))
      q_snil)
      (q_scons (q_setLc (x := "piece") 5 6 rfl sc_fits_lane.nd (qi_seq (q_var 3)) (blkOk_by (N := ["stream", "thing", "credit", "pieces", "memory", "waits", "piece"]) (sc := defScope s_fits_lane) (by decide +kernel)) (fun _ _ _ _ _ => (pg_name (i := 6) sc_fits_lane.nd rfl (by first | exact Or.inl rfl | exact Or.inr rfl))) (fun _ _ _ _ _ => (q_ixV 6 (pv 6) q_int)))
      (q_sone (q_ret (q_cmp (op_eqD hr.units) sr_eq (q_var 5) (q_srtR (q_var 5) T.f_sorted)))))))))))) ?_
  · obtain ⟨_, _, rfl, _⟩ := h; rfl
  intro ss cs Ed Qd h
  obtain ⟨s, ⟨cr, ps, M⟩, rfl, hs, hl, h⟩ := h
  have hlen : (ps.length : Int) ≤ s.lim := hl.len
  have hlim := hs.lim
  refine ⟨true, rfl, _, rfl, rfl, rfl, _, rfl, s, rfl, hs, _, _, _, rfl, ?_⟩
  refine ifNT (isWi_yes hl.cr) ?_
  refine ⟨rfl, _, _, rfl, rfl, s.R, M, rfl, hl.M, ?_⟩
  refine ⟨true, rfl, _, rfl, rfl, _, _, rfl, rfl, ifDF (by rw [pcs_len]; show ¬ s.lim < (ps.length : Int); omega) ?_⟩
  refine ⟨_, rfl, rfl, rfl, ?_⟩
  cases ps with
  | nil =>
    have e : cr = 0 := hl.emp rfl
    subst e
    exact ifT rfl ⟨rfl, rfl, h⟩
  | cons p0 r0 =>
    refine ifF ?_ ?_
    · rw [eqv_int, pcs_len]
      exact decide_eq_false (by simp only [List.length_cons]; omega)
    generalize hps : p0 :: r0 = ps at *
    have l99 : ps.length ≤ 99 := by omega
    refine ⟨fun t acc cs' => acc = List.replicate t (.bool true) ∧ cs' = cs, ⟨rfl, rfl⟩, ?_, ?_⟩
    · rintro t acc cs' ht ⟨rfl, rfl⟩
      have ht' : t < ps.length := by rw [← pcs_len]; exact ht
      rw [pcs_at ht']
      refine ⟨ps[t], rfl, hl.ps _ (List.getElem_mem ht'), ?_⟩
      refine ⟨lt_line (by rw [List.length_replicate]; omega), ?_, rfl⟩
      rw [List.replicate_succ']
    · rintro acc cs' ⟨rfl, rfl⟩
      refine ⟨List.replicate (pcs ps).length true, reps _, ?_⟩
      refine ifNT (allT _) ?_
      refine ⟨fun t acc cs2 => acc = (ps.take t).map (fun p => PyData.int p.wt) ∧ cs2 = cs', ⟨rfl, rfl⟩, ?_, ?_⟩
      · rintro t acc cs2 ht ⟨rfl, rfl⟩
        have ht' : t < ps.length := by rw [← pcs_len]; exact ht
        rw [pcs_at ht']
        refine ⟨rfl, _, _, rfl, rfl, lt_line (by rw [List.length_map, List.length_take]; omega), ?_, rfl⟩
        exact take_snoc (fun p : Pc => PyData.int p.wt) ht'
      · rintro acc cs2 ⟨rfl, rfl⟩
        rw [pcs_len, List.take_length]
        have e : ps.map (fun p => PyData.int p.wt) = (ps.map Pc.wt).map .int := by rw [List.map_map]; rfl
        rw [e]
        have al : ∀ ns : List Int, LayA (ns.map .int) 0 := fun ns => by
          induction ns with
          | nil => exact .nil
          | cons a r ih => exact .cons .int ih
        refine ⟨ps.map Pc.wt, rfl, fun ns' hp ho => ?_⟩
        have e2 : ns' = ps.map Pc.wt := same_sorted hp ho hl.wts
        subst e2
        have ly : Lay (.list ((ps.map Pc.wt).map .int)) 1 := by
          have z := al (ps.map Pc.wt)
          have e3 : PyData.depth (.list ((ps.map Pc.wt).map .int)) = PyData.depthAll ((ps.map Pc.wt).map .int) + 1 := by simp only [PyData.depth]
          exact ⟨by simp only [PyData.canLay0, z.c], by rw [e3]; have := z.d; omega⟩
        refine ⟨ly.shaped (by decide), ly.shaped (by decide), ?_⟩
        exact Eq.mp (congrArg (fun b => Qd (.bool b) cs2) ly.eqv.symm) h

/-! _check_stream -/
def f_check_stream : FD := fun ss cs _ Q => ∃ s : St, ss = [.d s.d] ∧ s.Ok ∧ Q .none cs
theorem sc_check_stream : FnScope ["stream"] ["stream"] (defScope s_check_stream) := ⟨rfl, rfl, rfl, by decide +kernel, rfl, by decide +kernel, by decide +kernel⟩
theorem ok_check_stream (T : Txt mg) (G_is_stream : Cal P w K mg base 5 "is_stream" ["thing"] f_is_stream) {a : Addr} {fd : FuncData} (F : FunD K "_check_stream" "_check_stream" (defArgs s_check_stream) (defBody s_check_stream) (defScope s_check_stream) [] [] a fd) (hb : Binds K fd ["stream"] []) (hm : mg "_check_stream" = some (.ref a)) : Cal P w K mg base 6 "_check_stream" ["stream"] f_check_stream := by
  refine cal_of F sc_check_stream hb hm (fun ss cs Ed Q h => ?_) (fun cdv A outer s H E hr => (q_sone (q_ifS (q_not (q_tv (q_call G_is_stream (hr.mono (by decide)) (passes_call (takes_of rfl rfl rfl rfl) fun _ _ _ _ h => h) (q_consV 0 (pv 0) q_nil))))
      (q_sone q_never)
      q_snil))) ?_
  · obtain ⟨_, rfl, _⟩ := h; rfl
  intro ss cs Ed Qd h
  obtain ⟨s, rfl, hs, h⟩ := h
  exact ⟨s, rfl, hs, h⟩

/-! is_lane -/
def f_is_lane : FD := fun ss cs _ Q => ∃ (s : St) (l : Ln), ss = [.d s.d, .d l.d] ∧ s.Ok ∧ l.Ok s ∧ Q (.bool true) cs
theorem sc_is_lane : FnScope ["stream", "thing"] ["stream", "thing"] (defScope s_is_lane) := ⟨rfl, rfl, rfl, by decide +kernel, rfl, by decide +kernel, by decide +kernel⟩
theorem ok_is_lane (T : Txt mg) (G_check_stream : Cal P w K mg base 6 "_check_stream" ["stream"] f_check_stream) (G_fits_lane : Cal P w K mg base 5 "fits_lane" ["stream", "thing"] f_fits_lane) {a : Addr} {fd : FuncData} (F : FunD K "is_lane" "is_lane" (defArgs s_is_lane) (defBody s_is_lane) (defScope s_is_lane) [] [] a fd) (hb : Binds K fd ["stream", "thing"] []) (hm : mg "is_lane" = some (.ref a)) : Cal P w K mg base 7 "is_lane" ["stream", "thing"] f_is_lane := by
  refine cal_of F sc_is_lane hb hm (fun ss cs Ed Q h => ?_) (fun cdv A outer s H E hr => (q_scons (q_expr (q_call G_check_stream (hr.mono (by decide)) (passes_call (takes_of rfl rfl rfl rfl) fun _ _ _ _ h => h) (q_consV 0 (pv 0) q_nil)))
      (q_sone (q_ret (q_call G_fits_lane (hr.mono (by decide)) (passes_call (takes_of rfl rfl rfl rfl) fun _ _ _ _ h => h) (q_consV 0 (pv 0) (q_consV 1 (pv 1) q_nil))))))) ?_
  · obtain ⟨_, _, rfl, _⟩ := h; rfl
  intro ss cs Ed Qd h
  obtain ⟨s, l, rfl, hs, hl, h⟩ := h
  exact ⟨s, rfl, hs, s, l, rfl, hs, hl, h⟩

/-! empty_lane -/
def f_empty_lane : FD := fun ss cs _ Q => ∃ (s : St), ss = [.d s.d] ∧ s.Ok ∧ Q (Ln.d ⟨0, [], firstM s.R⟩) cs
theorem sc_empty_lane : FnScope ["stream"] ["stream"] (defScope s_empty_lane) := ⟨rfl, rfl, rfl, by decide +kernel, rfl, by decide +kernel, by decide +kernel⟩
theorem ok_empty_lane (T : Txt mg) (G_check_stream : Cal P w K mg base 6 "_check_stream" ["stream"] f_check_stream) (G_first_memory : Cal P w K mg base 6 "first_memory" ["rule"] f_first_memory) {a : Addr} {fd : FuncData} (F : FunD K "empty_lane" "empty_lane" (defArgs s_empty_lane) (defBody s_empty_lane) (defScope s_empty_lane) [] [] a fd) (hb : Binds K fd ["stream"] []) (hm : mg "empty_lane" = some (.ref a)) : Cal P w K mg base 7 "empty_lane" ["stream"] f_empty_lane := by
  refine cal_of F sc_empty_lane hb hm (fun ss cs Ed Q h => ?_) (fun cdv A outer s H E hr => (q_scons (q_expr (q_call G_check_stream (hr.mono (by decide)) (passes_call (takes_of rfl rfl rfl rfl) fun _ _ _ _ h => h) (q_consV 0 (pv 0) q_nil)))
      (q_sone (q_ret (q_tup (q_cons q_int (q_cons (q_tup q_nil) (q_cons (q_call G_first_memory (hr.mono (by decide)) (passes_call (takes_of rfl rfl rfl rfl) fun _ _ _ _ h => h) (q_cons (q_ixV 0 (pv 0) q_int) q_nil)) q_nil)))))))) ?_
  · obtain ⟨_, rfl, _⟩ := h; rfl
  intro ss cs Ed Qd h
  obtain ⟨s, rfl, hs, h⟩ := h
  exact ⟨s, rfl, hs, le_line (show 0 ≤ 100000 by decide), rfl, _, _, rfl, rfl, s.R, rfl, hs.R, le_line (show 3 ≤ 100000 by decide), h⟩

/-! go_out -/
def f_go_out : FD := fun ss cs _ Q => ∃ (s : St) (l : Ln) (p : Pc) (r : List Pc), ss = [.d s.d, .d l.d] ∧ s.Ok ∧ l.Ok s ∧ l.ps = p :: r ∧ Q (.tuple [(outL s l p r).1.d, .str (outL s l p r).2]) cs
theorem sc_go_out : FnScope ["stream", "lane", "credit", "pieces", "memory", "_", "can", "marked", "wait", "behind", "alone", "struck", "word"] ["stream", "lane"] (defScope s_go_out) := ⟨rfl, rfl, rfl, by decide +kernel, rfl, by decide +kernel, by decide +kernel⟩
theorem ok_go_out (T : Txt mg) (G_look_at : Cal P w K mg base 6 "look_at" ["rule", "memory", "wait", "alone"] f_look_at) {a : Addr} {fd : FuncData} (F : FunD K "go_out" "go_out" (defArgs s_go_out) (defBody s_go_out) (defScope s_go_out) [] [] a fd) (hb : Binds K fd ["stream", "lane"] []) (hm : mg "go_out" = some (.ref a)) : Cal P w K mg base 7 "go_out" ["stream", "lane"] f_go_out := by
  refine cal_of F sc_go_out hb hm (fun ss cs Ed Q h => ?_) (fun cdv A outer s H E hr => (q_scons (q_unp [2, 3, 4] rfl (pgs_cons (pg_name (i := 2) sc_go_out.nd rfl (by first | exact Or.inl rfl | exact Or.inr rfl)) (pgs_cons (pg_name (i := 3) sc_go_out.nd rfl (by first | exact Or.inl rfl | exact Or.inr rfl)) (pgs_cons (pg_name (i := 4) sc_go_out.nd rfl (by first | exact Or.inl rfl | exact Or.inr rfl)) pgs_nil))) (q_var 1))
      (q_scons (q_unp [5, 6, 7, 8] rfl (pgs_cons (pg_name (i := 5) sc_go_out.nd rfl (by first | exact Or.inl rfl | exact Or.inr rfl)) (pgs_cons (pg_name (i := 6) sc_go_out.nd rfl (by first | exact Or.inl rfl | exact Or.inr rfl)) (pgs_cons (pg_name (i := 7) sc_go_out.nd rfl (by first | exact Or.inl rfl | exact Or.inr rfl)) (pgs_cons (pg_name (i := 8) sc_go_out.nd rfl (by first | exact Or.inl rfl | exact Or.inr rfl)) pgs_nil)))) (q_ixV 3 (pv 3) q_int))
      (q_scons (q_set 9 sc_go_out.nd (q_slV 3 (pv 3) (q_part q_int) q_no))
      (q_scons (q_set 10 sc_go_out.nd (q_cmp (op_eqD hr.units) sr_eq (q_lenV 9 (pv 9) T.f_len) q_int))
      (q_scons (q_unp [4, 11] rfl (pgs_cons (pg_name (i := 4) sc_go_out.nd rfl (by first | exact Or.inl rfl | exact Or.inr rfl)) (pgs_cons (pg_name (i := 11) sc_go_out.nd rfl (by first | exact Or.inl rfl | exact Or.inr rfl)) pgs_nil)) (q_call G_look_at (hr.mono (by decide)) (passes_call (takes_of rfl rfl rfl rfl) fun _ _ _ _ h => h) (q_cons (q_ixV 0 (pv 0) q_int) (q_consV 4 (pv 4) (q_consV 8 (pv 8) (q_consV 10 (pv 10) q_nil))))))
      (q_scons (q_ifS (q_tv (q_var 10))
      (q_sone (q_set 2 sc_go_out.nd q_int))
      q_snil)
      (q_scons (q_ifS (q_w (q_and (q_tv (q_var 11)) (q_and1 (q_not (q_tv (q_var 6))))))
      (q_sone (q_set 12 sc_go_out.nd q_str))
      (q_sone (q_ifS (q_w (q_or (q_tv (q_var 11)) (q_or1 (q_tv (q_var 7)))))
      (q_sone (q_set 12 sc_go_out.nd q_str))
      (q_sone (q_set 12 sc_go_out.nd q_str)))))
      (q_sone (q_ret (q_tup (q_cons (q_tup (q_consV 2 (pv 2) (q_consV 9 (pv 9) (q_consV 4 (pv 4) q_nil)))) (q_consV 12 (pv 12) q_nil))))))))))))) ?_
  · obtain ⟨_, _, _, _, rfl, _⟩ := h; rfl
  intro ss cs Ed Qd h
  obtain ⟨s, ⟨cr, ps, M⟩, ⟨sz, can, mk, wt⟩, r, rfl, hs, hl, e, h⟩ := h
  have e' : ps = ⟨sz, can, mk, wt⟩ :: r := e
  subst e'
  have l2 := le_line (show 2 ≤ 100000 by decide)
  have l3 := le_line (show 3 ≤ 100000 by decide)
  have hM : RM s.R M := hl.M
  have hw : 0 ≤ wt ∧ wt ≤ 1000000 := (hl.ps ⟨sz, can, mk, wt⟩ List.mem_cons_self).wt
  refine ⟨_, rfl, rfl, _, Pc.d ⟨sz, can, mk, wt⟩, rfl, at_data (by decide) rfl, _, rfl, rfl, _, rfl, _, rfl, rfl, rfl, ?_⟩
  have ecut : Kp.cutD (pcs (⟨sz, can, mk, wt⟩ :: r)) (some 1) none = pcs r := by
    have e1 : HT.sIx (pcs (⟨sz, can, mk, wt⟩ :: r)).length 0 (some 1) = 1 := by
      show (if (1 : Int) < 0 then ((1 : Int) + ((pcs (⟨sz, can, mk, wt⟩ :: r)).length : Int)).toNat else min (1 : Int).toNat (pcs (⟨sz, can, mk, wt⟩ :: r)).length) = 1
      rw [if_neg (by decide), pcs_len, List.length_cons]
      exact Nat.min_eq_left (by show 1 ≤ r.length + 1; omega)
    unfold Kp.cutD
    rw [e1]
    show ((pcs (⟨sz, can, mk, wt⟩ :: r)).drop 1).take ((pcs (⟨sz, can, mk, wt⟩ :: r)).length - 1) = pcs r
    show (pcs r).take ((pcs r).length + 1 - 1) = pcs r
    rw [Nat.add_sub_cancel, List.take_length]
  rw [ecut]
  have eal : PyData.eqv (.int ((pcs r).length : Int)) (.int 0) = decide (r.length = 0) := by rw [eqv_int, pcs_len]; exact decide_eq_decide.mpr (by omega)
  rw [eal]
  refine ⟨rfl, _, _, rfl, rfl, s.R, M, wt, decide (r.length = 0), rfl, hM, hw, ?_⟩
  unfold outL at h
  have h1 : Qd (.tuple [.tuple [.int (if r.length = 0 then 0 else cr), .tuple (pcs r), (lookR s.R M wt (decide (r.length = 0))).1.d], .str (outW (lookR s.R M wt (decide (r.length = 0))).2 ⟨sz, can, mk, wt⟩)]) cs := h
  clear h
  generalize (lookR s.R M wt (decide (r.length = 0))).1 = M' at *
  generalize (lookR s.R M wt (decide (r.length = 0))).2 = st at *
  refine ⟨_, rfl, ?_⟩
  dsimp only [DN.push, dNext]
  refine d_mid (fun ρ' cs' => ∃ x12 : Sl, ρ' = [.d s.d, .d (Ln.d ⟨cr, ⟨sz, can, mk, wt⟩ :: r, M⟩), .d (.int (if r.length = 0 then 0 else cr)), .d (.tuple (pcs (⟨sz, can, mk, wt⟩ :: r))), .d M'.d, .d (.int sz), .d (.bool can), .d (.bool mk), .d (.int wt), .d (.tuple (pcs r)), .d (.bool (decide (r.length = 0))), .d (.bool st), x12] ∧ cs' = cs) (fun D1 _ _ hN => ?_) ?_
  · refine ifD2 (fun q => ?_) fun q => ?_
    · exact hN _ _ ⟨_, by rw [if_pos q]; rfl, rfl⟩
    · exact hN _ _ ⟨_, by rw [if_neg q]; rfl, rfl⟩
  rintro ρ cs2 ⟨x12, rfl, rfl⟩
  cases st with
  | true =>
    cases can with
    | false => exact ⟨l3, l2, h1⟩
    | true => exact ⟨l3, l2, h1⟩
  | false =>
    cases mk with
    | false => exact ⟨l3, l2, h1⟩
    | true => exact ⟨l3, l2, h1⟩

/-! _check_lane -/
def f_check_lane : FD := fun ss cs _ Q => ∃ (s : St) (l : Ln), ss = [.d s.d, .d l.d] ∧ s.Ok ∧ l.Ok s ∧ Q .none cs
theorem sc_check_lane : FnScope ["stream", "lane"] ["stream", "lane"] (defScope s_check_lane) := ⟨rfl, rfl, rfl, by decide +kernel, rfl, by decide +kernel, by decide +kernel⟩
theorem ok_check_lane (T : Txt mg) (G_is_lane : Cal P w K mg base 7 "is_lane" ["stream", "thing"] f_is_lane) {a : Addr} {fd : FuncData} (F : FunD K "_check_lane" "_check_lane" (defArgs s_check_lane) (defBody s_check_lane) (defScope s_check_lane) [] [] a fd) (hb : Binds K fd ["stream", "lane"] []) (hm : mg "_check_lane" = some (.ref a)) : Cal P w K mg base 8 "_check_lane" ["stream", "lane"] f_check_lane := by
  refine cal_of F sc_check_lane hb hm (fun ss cs Ed Q h => ?_) (fun cdv A outer s H E hr => (q_sone (q_ifS (q_not (q_tv (q_call G_is_lane (hr.mono (by decide)) (passes_call (takes_of rfl rfl rfl rfl) fun _ _ _ _ h => h) (q_consV 0 (pv 0) (q_consV 1 (pv 1) q_nil)))))
      (q_sone q_never)
      q_snil))) ?_
  · obtain ⟨_, _, rfl, _⟩ := h; rfl
  intro ss cs Ed Qd h
  obtain ⟨s, l, rfl, hs, hl, h⟩ := h
  exact ⟨s, l, rfl, hs, hl, h⟩

/-! put_in -/
def f_put_in : FD := fun ss cs _ Q => ∃ (s : St) (l : Ln) (sz : Int) (can : Bool), ss = [.d s.d, .d l.d, .d (.int sz), .d (.bool can)] ∧ s.Ok ∧ l.Ok s ∧ (1 ≤ sz ∧ sz ≤ 9) ∧ Q (.tuple [(comeL s l sz can).1.d, .str (comeL s l sz can).2]) cs
theorem sc_put_in : FnScope ["stream", "lane", "size", "can"] ["stream", "lane", "size", "can"] (defScope s_put_in) := ⟨rfl, rfl, rfl, by decide +kernel, rfl, by decide +kernel, by decide +kernel⟩
theorem ok_put_in (T : Txt mg) (G_check_lane : Cal P w K mg base 8 "_check_lane" ["stream", "lane"] f_check_lane) (G_check_number : Cal P w K mg base 3 "check_number" ["thing", "low", "high"] f_check_number) (G_come_to : Cal P w K mg base 3 "come_to" ["stream", "lane", "size", "can"] f_come_to) {a : Addr} {fd : FuncData} (F : FunD K "put_in" "put_in" (defArgs s_put_in) (defBody s_put_in) (defScope s_put_in) [] [("can", .bl true)] a fd) (hm : mg "put_in" = some (.ref a)) : CalK P w K mg base 9 "put_in" ["stream", "lane", "size", "can"] 3 "can" true f_put_in := by
  refine calK_of F hm (fn_of F sc_put_in (fun ss cs Ed Q h => ?_) (fun cdv A outer s H E hr => (q_scons (q_expr (q_call G_check_lane (hr.mono (by decide)) (passes_call (takes_of rfl rfl rfl rfl) fun _ _ _ _ h => h) (q_consV 0 (pv 0) (q_consV 1 (pv 1) q_nil))))
      (q_scons (q_expr (q_call G_check_number (hr.mono (by decide)) (passes_call (takes_of rfl rfl rfl rfl) fun _ _ _ _ h => h) (q_consV 2 (pv 2) (q_cons q_int (q_cons (q_globI T.i_MOST_SIZE) q_nil)))))
      (q_sone (q_ret (q_call G_come_to (hr.mono (by decide)) (passes_call (takes_of rfl rfl rfl rfl) fun _ _ _ _ h => h) (q_consV 0 (pv 0) (q_consV 1 (pv 1) (q_consV 2 (pv 2) (q_consV 3 (pv 3) q_nil)))))))))) ?_) (FunD.binds0 F 3 (by simp) rfl fun D doc pm an cdv ct us ks h1 h2 => match us, ks, h1, h2 with | [_, _, _], [_], _, _ => ⟨_, _, _, _, _, _, rfl, rfl, rfl⟩) (kb_all F 3 fun kV doc pm an cdv ct us ws h1 h2 => match us, ws, h1, h2 with | [_, _, _], [_], _, _ => rfl)
  · obtain ⟨_, _, _, _, rfl, _⟩ := h; rfl
  intro ss cs Ed Qd h
  obtain ⟨s, l, sz, can, rfl, hs, hl, hz, h⟩ := h
  exact ⟨s, l, rfl, hs, hl, sz, 1, 9, rfl, hz, s, l, sz, can, rfl, hs, hl, hz, h⟩

/-! head_out -/
def f_head_out : FD := fun ss cs _ Q => ∃ (s : St) (l : Ln) (p : Pc) (r : List Pc), ss = [.d s.d, .d l.d] ∧ s.Ok ∧ l.Ok s ∧ l.ps = p :: r ∧ Q (.tuple [(outL s l p r).1.d, .str (outL s l p r).2]) cs
theorem sc_head_out : FnScope ["stream", "lane"] ["stream", "lane"] (defScope s_head_out) := ⟨rfl, rfl, rfl, by decide +kernel, rfl, by decide +kernel, by decide +kernel⟩
theorem ok_head_out (T : Txt mg) (G_check_lane : Cal P w K mg base 8 "_check_lane" ["stream", "lane"] f_check_lane) (G_go_out : Cal P w K mg base 7 "go_out" ["stream", "lane"] f_go_out) {a : Addr} {fd : FuncData} (F : FunD K "head_out" "head_out" (defArgs s_head_out) (defBody s_head_out) (defScope s_head_out) [] [] a fd) (hb : Binds K fd ["stream", "lane"] []) (hm : mg "head_out" = some (.ref a)) : Cal P w K mg base 9 "head_out" ["stream", "lane"] f_head_out := by
  refine cal_of F sc_head_out hb hm (fun ss cs Ed Q h => ?_) (fun cdv A outer s H E hr => (q_scons (q_expr (q_call G_check_lane (hr.mono (by decide)) (passes_call (takes_of rfl rfl rfl rfl) fun _ _ _ _ h => h) (q_consV 0 (pv 0) (q_consV 1 (pv 1) q_nil))))
      (q_scons (q_ifS (q_tcmp (op_eqD hr.units) sr_eq (q_cb call_len_seq sc_len T.f_len boot_len (q_cons (q_ixV 1 (pv 1) q_int) q_nil)) q_int)
      (q_sone q_never)
      q_snil)
      (q_sone (q_ret (q_call G_go_out (hr.mono (by decide)) (passes_call (takes_of rfl rfl rfl rfl) fun _ _ _ _ h => h) (q_consV 0 (pv 0) (q_consV 1 (pv 1) q_nil)))))))) ?_
  · obtain ⟨_, _, _, _, rfl, _⟩ := h; rfl
  intro ss cs Ed Qd h
  obtain ⟨s, l, p, r, rfl, hs, hl, e, h⟩ := h
  refine ⟨s, l, rfl, hs, hl, rfl, _, _, rfl, rfl, rfl, rfl, ifF ?_ ⟨s, l, p, r, rfl, hs, hl, e, h⟩⟩
  rw [eqv_int, pcs_len, e]
  exact decide_eq_false (by simp only [List.length_cons]; omega)

/-! lane_renewed -/
def f_lane_renewed : FD := fun ss cs _ Q => ∃ (s : St) (l : Ln), ss = [.d s.d, .d l.d] ∧ s.Ok ∧ l.Ok s ∧ Q (renewLn s l).d cs
theorem sc_lane_renewed : FnScope ["stream", "lane"] ["stream", "lane"] (defScope s_lane_renewed) := ⟨rfl, rfl, rfl, by decide +kernel, rfl, by decide +kernel, by decide +kernel⟩
theorem ok_lane_renewed (T : Txt mg) (G_check_lane : Cal P w K mg base 8 "_check_lane" ["stream", "lane"] f_check_lane) (G_renew_lane : Cal P w K mg base 3 "renew_lane" ["stream", "lane"] f_renew_lane) {a : Addr} {fd : FuncData} (F : FunD K "lane_renewed" "lane_renewed" (defArgs s_lane_renewed) (defBody s_lane_renewed) (defScope s_lane_renewed) [] [] a fd) (hb : Binds K fd ["stream", "lane"] []) (hm : mg "lane_renewed" = some (.ref a)) : Cal P w K mg base 9 "lane_renewed" ["stream", "lane"] f_lane_renewed := by
  refine cal_of F sc_lane_renewed hb hm (fun ss cs Ed Q h => ?_) (fun cdv A outer s H E hr => (q_scons (q_expr (q_call G_check_lane (hr.mono (by decide)) (passes_call (takes_of rfl rfl rfl rfl) fun _ _ _ _ h => h) (q_consV 0 (pv 0) (q_consV 1 (pv 1) q_nil))))
      (q_sone (q_ret (q_call G_renew_lane (hr.mono (by decide)) (passes_call (takes_of rfl rfl rfl rfl) fun _ _ _ _ h => h) (q_consV 0 (pv 0) (q_consV 1 (pv 1) q_nil))))))) ?_
  · obtain ⟨_, _, rfl, _⟩ := h; rfl
  intro ss cs Ed Qd h
  obtain ⟨s, l, rfl, hs, hl, h⟩ := h
  exact ⟨s, l, rfl, hs, hl, s, l, rfl, hs, hl, h⟩

/-! lane_passed -/
def f_lane_passed : FD := fun ss cs _ Q => ∃ (s : St) (l : Ln), ss = [.d s.d, .d l.d] ∧ s.Ok ∧ l.Ok s ∧ Q (passLn s l).d cs
theorem sc_lane_passed : FnScope ["stream", "lane"] ["stream", "lane"] (defScope s_lane_passed) := ⟨rfl, rfl, rfl, by decide +kernel, rfl, by decide +kernel, by decide +kernel⟩
theorem ok_lane_passed (T : Txt mg) (G_check_lane : Cal P w K mg base 8 "_check_lane" ["stream", "lane"] f_check_lane) (G_pass_lane : Cal P w K mg base 3 "pass_lane" ["stream", "lane"] f_pass_lane) {a : Addr} {fd : FuncData} (F : FunD K "lane_passed" "lane_passed" (defArgs s_lane_passed) (defBody s_lane_passed) (defScope s_lane_passed) [] [] a fd) (hb : Binds K fd ["stream", "lane"] []) (hm : mg "lane_passed" = some (.ref a)) : Cal P w K mg base 9 "lane_passed" ["stream", "lane"] f_lane_passed := by
  refine cal_of F sc_lane_passed hb hm (fun ss cs Ed Q h => ?_) (fun cdv A outer s H E hr => (q_scons (q_expr (q_call G_check_lane (hr.mono (by decide)) (passes_call (takes_of rfl rfl rfl rfl) fun _ _ _ _ h => h) (q_consV 0 (pv 0) (q_consV 1 (pv 1) q_nil))))
      (q_sone (q_ret (q_call G_pass_lane (hr.mono (by decide)) (passes_call (takes_of rfl rfl rfl rfl) fun _ _ _ _ h => h) (q_consV 0 (pv 0) (q_consV 1 (pv 1) q_nil))))))) ?_
  · obtain ⟨_, _, rfl, _⟩ := h; rfl
  intro ss cs Ed Qd h
  obtain ⟨s, l, rfl, hs, hl, h⟩ := h
  exact ⟨s, l, rfl, hs, hl, s, l, rfl, hs, hl, h⟩

end
end Law

namespace Law
open PySem PySem.Spec PyProof.Rows L2 Kp
abbrev s_law_folded : Stmt := topS 71
abbrev s_law_late_rule : Stmt := topS 72
abbrev s_law_share_rule : Stmt := topS 73
abbrev s_law_rule : Stmt := topS 74
abbrev s_law_stream : Stmt := topS 75
theorem set_same {cs : CS} {j : Nat} {x : List PyData} (h : cs[j]? = some x) : cs.set j x = cs := by
  obtain ⟨h1, h2⟩ := List.getElem?_eq_some_iff.mp h
  rw [← h2]
  exact List.set_getElem_self h1

theorem PotAt.over {j i B : Nat} {x : List PyData} {cs : CS} (h : PotAt cs j B) (n : j ≠ i) : PotAt (cs.set i x) j B := by
  obtain ⟨ds, h1, h2⟩ := h
  exact ⟨ds, (List.getElem?_set_ne (Ne.symm n)).trans h1, h2⟩
/-- no wait above so many ticks -/
def Wb (n : Int) (ps : List Pc) : Prop := ∀ p ∈ ps, p.wt ≤ n
theorem comeR_hit {R : Ru} {M : Me} (h : RM R M) (q : (comeR M).2 = true) : R.isS = true := by
  cases h with
  | none => cases q
  | late hr hm => cases q
  | share hr hm => rfl
theorem lookR_hit {R : Ru} {M : Me} {w : Int} {al : Bool} (h : RM R M) (q : (lookR R M w al).2 = true) : R.isL = true := by
  cases h with
  | none => cases q
  | late hr hm => rfl
  | share hr hm => cases q
theorem Ru.first (R : Ru) : ∃ (a : Str) (r : List PyData), R.d = .tuple (.str a :: r) ∧ SeqAt.shaped (.str a) = true ∧ (PyData.eqv (.str a) (.str "share") = R.isS) ∧ (PyData.eqv (.str a) (.str "late") = R.isL) := by
  cases R with
  | none => exact ⟨"none", _, rfl, shN, sNS, sNL⟩
  | late r => exact ⟨"late", _, rfl, shL, sLS, sLL⟩
  | share r => exact ⟨"share", _, rfl, shS, sSS, sSL⟩
theorem wF : SeqAt.shaped (.str "full") = true := by decide +kernel
theorem wD : SeqAt.shaped (.str "drop") = true := by decide +kernel
theorem wM : SeqAt.shaped (.str "mark") = true := by decide +kernel
theorem wC : SeqAt.shaped (.str "come") = true := by decide +kernel
theorem wB : SeqAt.shaped (.str "bell") = true := by decide +kernel
theorem wE : SeqAt.shaped (.str "send") = true := by decide +kernel
section
variable {P : Program} {w : World} {K : Frag} {mg : Str → Option Value} {base : Heap}
/-! _law_folded -/
def f_law_folded : FN := fun ss cs _ Q => ∃ (ns : List Int) (m : Int), ss = [.f (ns.map .int), .d (.int m)] ∧ (1 ≤ m ∧ m ≤ 63) ∧ ns.length ≤ 63 ∧ ∀ ms : List Int, (ms.length : Int) ≤ m → Q (ms.map .int) cs
theorem sc_law_folded : FnScope ["script", "most", "found", "k"] ["script", "most"] (defScope s_law_folded) := ⟨rfl, rfl, rfl, by decide +kernel, rfl, by decide +kernel, by decide +kernel⟩
theorem ok_law_folded (T : Txt mg) {a : Addr} {fd : FuncData} (F : FunD K "_law_folded" "_law_folded" (defArgs s_law_folded) (defBody s_law_folded) (defScope s_law_folded) [] [] a fd) (hb : Binds K fd ["script", "most"] []) (hm : mg "_law_folded" = some (.ref a)) : CalN P w K mg base 1 "_law_folded" ["script", "most"] f_law_folded := by
  refine calN_of F sc_law_folded hb hm (fun ss cs Ed Q h => ?_) (fun cdv A outer s H E hr => (q_scons (q_new 2 sc_law_folded.nd (q_nlist (q_slV 0 (pv 0) q_no (q_part (q_var 1))) T.f_list))
      (q_scons (q_for (passes_of rfl) rfl (qi_r2 T.f_range (q_consV 1 (pv 1) (q_cons (q_cb (call_min2 rfl) sc_min2 T.f_min (by decide +kernel) (q_cons q_int (q_cons (q_lenV 0 (pv 0) T.f_len) q_nil))) q_nil))) (qg_1 3 (pg_name (i := 3) sc_law_folded.nd rfl (by first | exact Or.inl rfl | exact Or.inr rfl)))
      (q_sone (q_store 2 (pv 2) (q_bin op_mod sr_mod (q_var 3) (q_var 1)) (q_bin op_plus sr_plus (q_bin op_times sr_times (q_ixV 2 (pv 2) (q_bin op_mod sr_mod (q_var 3) (q_var 1))) q_int) (q_ixV 0 (pv 0) (q_var 3))))))
      (q_sone (q_retV 2 (pv 2)))))) ?_
  · obtain ⟨_, _, rfl, _⟩ := h; rfl
  intro ss cs Ed Qd h
  obtain ⟨ns, m, rfl, hm, hn, h⟩ := h
  have ecut : Kp.cutD (ns.map .int) none (some m) = (ns.take m.toNat).map PyData.int := by
    obtain ⟨k, rfl⟩ := Int.eq_ofNat_of_zero_le (show 0 ≤ m by omega)
    unfold Kp.cutD
    rw [HT.sIx_nat]
    show ((ns.map PyData.int).drop 0).take (min k (ns.map PyData.int).length - 0) = (ns.take k).map PyData.int
    rw [List.drop_zero, Nat.sub_zero, List.length_map, List.map_take]
    by_cases c : k ≤ ns.length
    · rw [Nat.min_eq_left c]
    · rw [Nat.min_eq_right (by omega), List.take_of_length_le (by rw [List.length_map]; omega), List.take_of_length_le (by rw [List.length_map]; omega)]
  have hlm : (ns.map PyData.int).length = ns.length := List.length_map _
  refine ⟨rfl, _, congrArg (fun z => some (PyData.list z)) ecut, ?_⟩
  refine ⟨_, rfl, ⟨by omega, by omega, ?_, ?_⟩, ?_⟩
  · show -(2 ^ 62) ≤ (if ((ns.map PyData.int).length : Int) < 63 then ((ns.map PyData.int).length : Int) else 63)
    split <;> omega
  · show (if ((ns.map PyData.int).length : Int) < 63 then ((ns.map PyData.int).length : Int) else 63) < 2 ^ 62
    split <;> omega
  refine ⟨fun t ρ cs2 => ∃ (ms : List Int) (x3 : Sl), ρ = [.f (ns.map .int), .d (.int m), .c 0, x3] ∧ cs2 = ms.map .int :: cs ∧ ms.length = min m.toNat ns.length, ⟨ns.take m.toNat, _, rfl, rfl, List.length_take⟩, ?_, ?_⟩
  · rintro t ρ cs2 ht ⟨ms, x3, rfl, rfl, hms⟩
    have ht' : t < ((if ((ns.map PyData.int).length : Int) < 63 then ((ns.map PyData.int).length : Int) else 63) - m).toNat := ht
    have hk : m + (t : Int) < ns.length := by
      rw [hlm] at ht'
      split at ht' <;> omega
    have hmn : m.toNat ≤ ns.length := by omega
    have hm2 : (ms.length : Int) = m := by rw [hms, Nat.min_eq_left hmn]; omega
    have i1 := Int.emod_nonneg (m + (t : Int)) (show m ≠ 0 by omega)
    have i2 := Int.emod_lt_of_pos (m + (t : Int)) (show 0 < m by omega)
    have hix : ((m + (t : Int)) % m).toNat < ms.length := by omega
    have a1 : atI (ms.map PyData.int) ((m + (t : Int)) % m) = some (.int ms[((m + (t : Int)) % m).toNat]) := at_data i1 (by rw [List.getElem?_map, List.getElem?_eq_getElem hix]; rfl)
    have hkn : (m + (t : Int)).toNat < ns.length := by omega
    have a2 : atI (ns.map PyData.int) (m + (t : Int)) = some (.int ns[(m + (t : Int)).toNat]) := at_data (by omega) (by rw [List.getElem?_map, List.getElem?_eq_getElem hkn]; rfl)
    have a3 : ixN (ms.map PyData.int).length ((m + (t : Int)) % m) = some ((m + (t : Int)) % m).toNat := by
      unfold ixN
      rw [if_pos i1, if_pos (by rw [List.length_map]; omega)]
    refine ⟨_, rfl, rfl, (show 0 < m by omega), _, _, rfl, a1, .inr ⟨by decide, by decide⟩, rfl, _, _, rfl, a2, (show 0 < m by omega), _, _, rfl, a3, ?_⟩
    refine ⟨ms.set ((m + (t : Int)) % m).toNat (ms[((m + (t : Int)) % m).toNat] * 31 + ns[(m + (t : Int)).toNat]), _, rfl, ?_, by rw [List.length_set]; exact hms⟩
    rw [List.map_set]
    rfl
  · rintro ρ cs2 ⟨ms, x3, rfl, rfl, hms⟩
    exact ⟨(show (0 : Nat) < 1 by decide), _, rfl, .inr (h ms (by rw [hms]; omega))⟩

/-! _law_late_rule -/
def f_law_late_rule : FD := fun ss cs _ Q => ∃ (j B : Nat), ss = [.c j] ∧ PotAt cs j B ∧ B ≤ 2 ^ 39 ∧ ∀ (r : Lr) cs', r.Ok → Chg j cs cs' → PotAt cs' j (B + 20) → Q r.d cs'

theorem sc_law_late_rule : FnScope ["pot", "mark", "span"] ["pot"] (defScope s_law_late_rule) := ⟨rfl, rfl, rfl, by decide +kernel, rfl, by decide +kernel, by decide +kernel⟩
theorem ok_law_late_rule (T : Txt mg) (G_law_take : Cal P w K mg base 1 "_law_take" ["pot", "many"] f_law_take) {a : Addr} {fd : FuncData} (F : FunD K "_law_late_rule" "_law_late_rule" (defArgs s_law_late_rule) (defBody s_law_late_rule) (defScope s_law_late_rule) [] [] a fd) (hb : Binds K fd ["pot"] []) (hm : mg "_law_late_rule" = some (.ref a)) : Cal P w K mg base 2 "_law_late_rule" ["pot"] f_law_late_rule := by
  refine cal_of F sc_law_late_rule hb hm (fun ss cs Ed Q h => ?_) (fun cdv A outer s H E hr => (q_scons (q_set 1 sc_law_late_rule.nd (q_ix (q_lst (q_cons (q_bin op_plus sr_plus q_int (q_call G_law_take (hr.mono (by decide)) (passes_call (takes_of rfl rfl rfl rfl) fun _ _ _ _ h => h) (q_consV 0 (pv 0) (q_cons q_int q_nil)))) (q_cons (q_bin op_plus sr_plus q_int (q_call G_law_take (hr.mono (by decide)) (passes_call (takes_of rfl rfl rfl rfl) fun _ _ _ _ h => h) (q_consV 0 (pv 0) (q_cons q_int q_nil)))) (q_cons q_int q_nil)))) (q_bin op_fdivW sr_div (q_call G_law_take (hr.mono (by decide)) (passes_call (takes_of rfl rfl rfl rfl) fun _ _ _ _ h => h) (q_consV 0 (pv 0) (q_cons q_int q_nil))) q_int)))
      (q_scons (q_set 2 sc_law_late_rule.nd (q_lst (q_cons (q_bin op_plus sr_plus q_int (q_call G_law_take (hr.mono (by decide)) (passes_call (takes_of rfl rfl rfl rfl) fun _ _ _ _ h => h) (q_consV 0 (pv 0) (q_cons q_int q_nil)))) (q_cons (q_bin op_plus sr_plus q_int (q_call G_law_take (hr.mono (by decide)) (passes_call (takes_of rfl rfl rfl rfl) fun _ _ _ _ h => h) (q_consV 0 (pv 0) (q_cons q_int q_nil)))) (q_cons (q_bin op_plus sr_plus q_int (q_call G_law_take (hr.mono (by decide)) (passes_call (takes_of rfl rfl rfl rfl) fun _ _ _ _ h => h) (q_consV 0 (pv 0) (q_cons q_int q_nil)))) q_nil)))))
      (q_sone (q_ret (q_tup (q_cons q_str (q_consV 1 (pv 1) (q_cons (q_ixV 2 (pv 2) (q_bin op_fdivW sr_div (q_call G_law_take (hr.mono (by decide)) (passes_call (takes_of rfl rfl rfl rfl) fun _ _ _ _ h => h) (q_consV 0 (pv 0) (q_cons q_int q_nil))) q_int)) q_nil))))))))) ?_
  · obtain ⟨_, _, rfl, _⟩ := h; rfl
  intro ss cs Ed Qd h
  obtain ⟨j, B, rfl, hp0, hB, h⟩ := h
  refine ⟨j, _, _, rfl, hp0, by omega, ⟨by decide, by decide⟩, fun r1 cs1 hr1 hc1 hp1 => ?_⟩
  refine ⟨j, _, _, rfl, hp1, by omega, ⟨by decide, by decide⟩, fun r2 cs2 hr2 hc2 hp2 => ?_⟩
  refine ⟨le_line (show 3 ≤ 100000 by decide), j, _, _, rfl, hp2, by omega, ⟨by decide, by decide⟩, fun r3 cs3 hr3 hc3 hp3 => ?_⟩
  obtain ⟨z1, a1, b1, c1⟩ := pickI (lo := 1) (hi := 99) (ds := [.int (1 + r1), .int (1 + r2), .int 99]) (i := r3 / 4) (.cons (by omega) (by omega) (.cons (by omega) (by omega) (.cons (by omega) (by omega) .nil))) (by omega) (by show r3 / 4 < 3; omega)
  refine ⟨⟨by decide, by decide⟩, _, a1, ?_⟩
  refine ⟨j, _, _, rfl, hp3, by omega, ⟨by decide, by decide⟩, fun r4 cs4 hr4 hc4 hp4 => ?_⟩
  refine ⟨j, _, _, rfl, hp4, by omega, ⟨by decide, by decide⟩, fun r5 cs5 hr5 hc5 hp5 => ?_⟩
  refine ⟨j, _, _, rfl, hp5, by omega, ⟨by decide, by decide⟩, fun r6 cs6 hr6 hc6 hp6 => ?_⟩
  refine ⟨le_line (show 3 ≤ 100000 by decide), rfl, j, _, _, rfl, hp6, by omega, ⟨by decide, by decide⟩, fun r7 cs7 hr7 hc7 hp7 => ?_⟩
  obtain ⟨z2, a2, b2, c2⟩ := pickI (lo := 1) (hi := 99) (ds := [.int (1 + r4), .int (1 + r5), .int (1 + r6)]) (i := r7 / 4) (.cons (by omega) (by omega) (.cons (by omega) (by omega) (.cons (by omega) (by omega) .nil))) (by omega) (by show r7 / 4 < 3; omega)
  refine ⟨⟨by decide, by decide⟩, _, _, rfl, a2, le_line (show 3 ≤ 100000 by decide), ?_⟩
  exact h ⟨z1, z2⟩ cs7 ⟨⟨b1, c1⟩, ⟨b2, c2⟩⟩ ((((((hc1.trans hc2).trans hc3).trans hc4).trans hc5).trans hc6).trans hc7) (hp7.mono (by omega))

/-! _law_share_rule -/
def f_law_share_rule : FD := fun ss cs _ Q => ∃ (j B : Nat), ss = [.c j] ∧ PotAt cs j B ∧ B ≤ 2 ^ 39 ∧ ∀ (r : Rl) cs', r.Ok → Chg j cs cs' → PotAt cs' j (B + 20) → Q r.d cs'

theorem sc_law_share_rule : FnScope ["pot", "mark", "period", "some", "up"] ["pot"] (defScope s_law_share_rule) := ⟨rfl, rfl, rfl, by decide +kernel, rfl, by decide +kernel, by decide +kernel⟩
theorem ok_law_share_rule (T : Txt mg) (G_law_take : Cal P w K mg base 1 "_law_take" ["pot", "many"] f_law_take) {a : Addr} {fd : FuncData} (F : FunD K "_law_share_rule" "_law_share_rule" (defArgs s_law_share_rule) (defBody s_law_share_rule) (defScope s_law_share_rule) [] [] a fd) (hb : Binds K fd ["pot"] []) (hm : mg "_law_share_rule" = some (.ref a)) : Cal P w K mg base 2 "_law_share_rule" ["pot"] f_law_share_rule := by
  refine cal_of F sc_law_share_rule hb hm (fun ss cs Ed Q h => ?_) (fun cdv A outer s H E hr => (q_scons (q_set 1 sc_law_share_rule.nd (q_ix (q_lst (q_cons (q_bin op_plus sr_plus q_int (q_call G_law_take (hr.mono (by decide)) (passes_call (takes_of rfl rfl rfl rfl) fun _ _ _ _ h => h) (q_consV 0 (pv 0) (q_cons q_int q_nil)))) (q_cons (q_bin op_plus sr_plus q_int (q_call G_law_take (hr.mono (by decide)) (passes_call (takes_of rfl rfl rfl rfl) fun _ _ _ _ h => h) (q_consV 0 (pv 0) (q_cons q_int q_nil)))) q_nil))) (q_bin op_fdivW sr_div (q_call G_law_take (hr.mono (by decide)) (passes_call (takes_of rfl rfl rfl rfl) fun _ _ _ _ h => h) (q_consV 0 (pv 0) (q_cons q_int q_nil))) q_int)))
      (q_scons (q_set 2 sc_law_share_rule.nd (q_ix (q_lst (q_cons (q_bin op_plus sr_plus q_int (q_call G_law_take (hr.mono (by decide)) (passes_call (takes_of rfl rfl rfl rfl) fun _ _ _ _ h => h) (q_consV 0 (pv 0) (q_cons q_int q_nil)))) (q_cons (q_bin op_plus sr_plus q_int (q_call G_law_take (hr.mono (by decide)) (passes_call (takes_of rfl rfl rfl rfl) fun _ _ _ _ h => h) (q_consV 0 (pv 0) (q_cons q_int q_nil)))) q_nil))) (q_bin op_fdivW sr_div (q_call G_law_take (hr.mono (by decide)) (passes_call (takes_of rfl rfl rfl rfl) fun _ _ _ _ h => h) (q_consV 0 (pv 0) (q_cons q_int q_nil))) q_int)))
      (q_scons (q_set 3 sc_law_share_rule.nd (q_lst (q_cons (q_call G_law_take (hr.mono (by decide)) (passes_call (takes_of rfl rfl rfl rfl) fun _ _ _ _ h => h) (q_consV 0 (pv 0) (q_cons q_int q_nil))) (q_cons (q_call G_law_take (hr.mono (by decide)) (passes_call (takes_of rfl rfl rfl rfl) fun _ _ _ _ h => h) (q_consV 0 (pv 0) (q_cons q_int q_nil))) (q_cons q_int (q_cons q_int q_nil))))))
      (q_scons (q_set 4 sc_law_share_rule.nd (q_ixV 3 (pv 3) (q_call G_law_take (hr.mono (by decide)) (passes_call (takes_of rfl rfl rfl rfl) fun _ _ _ _ h => h) (q_consV 0 (pv 0) (q_cons q_int q_nil)))))
      (q_sone (q_ret (q_tup (q_cons q_str (q_consV 1 (pv 1) (q_consV 2 (pv 2) (q_consV 4 (pv 4) (q_cons (q_ix (q_lst (q_cons (q_call G_law_take (hr.mono (by decide)) (passes_call (takes_of rfl rfl rfl rfl) fun _ _ _ _ h => h) (q_consV 0 (pv 0) (q_cons q_int q_nil))) (q_cons q_int (q_cons q_int q_nil)))) (q_call G_law_take (hr.mono (by decide)) (passes_call (takes_of rfl rfl rfl rfl) fun _ _ _ _ h => h) (q_consV 0 (pv 0) (q_cons q_int q_nil)))) q_nil))))))))))))) ?_
  · obtain ⟨_, _, rfl, _⟩ := h; rfl
  intro ss cs Ed Qd h
  obtain ⟨j, B, rfl, hp0, hB, h⟩ := h
  refine ⟨j, _, _, rfl, hp0, by omega, ⟨by decide, by decide⟩, fun r1 cs1 hr1 hc1 hp1 => ?_⟩
  refine ⟨j, _, _, rfl, hp1, by omega, ⟨by decide, by decide⟩, fun r2 cs2 hr2 hc2 hp2 => ?_⟩
  refine ⟨le_line (show 2 ≤ 100000 by decide), j, _, _, rfl, hp2, by omega, ⟨by decide, by decide⟩, fun r3 cs3 hr3 hc3 hp3 => ?_⟩
  obtain ⟨z1, a1, b1, c1⟩ := pickI (lo := 1) (hi := 99) (ds := [.int (1 + r1), .int (1 + r2)]) (i := r3 / 4) (.cons (by omega) (by omega) (.cons (by omega) (by omega) .nil)) (by omega) (by show r3 / 4 < 2; omega)
  refine ⟨⟨by decide, by decide⟩, _, a1, ?_⟩
  refine ⟨j, _, _, rfl, hp3, by omega, ⟨by decide, by decide⟩, fun r4 cs4 hr4 hc4 hp4 => ?_⟩
  refine ⟨j, _, _, rfl, hp4, by omega, ⟨by decide, by decide⟩, fun r5 cs5 hr5 hc5 hp5 => ?_⟩
  refine ⟨le_line (show 2 ≤ 100000 by decide), j, _, _, rfl, hp5, by omega, ⟨by decide, by decide⟩, fun r6 cs6 hr6 hc6 hp6 => ?_⟩
  obtain ⟨z2, a2, b2, c2⟩ := pickI (lo := 1) (hi := 99) (ds := [.int (1 + r4), .int (1 + r5)]) (i := r6 / 4) (.cons (by omega) (by omega) (.cons (by omega) (by omega) .nil)) (by omega) (by show r6 / 4 < 2; omega)
  refine ⟨⟨by decide, by decide⟩, _, a2, ?_⟩
  refine ⟨j, _, _, rfl, hp6, by omega, ⟨by decide, by decide⟩, fun r7 cs7 hr7 hc7 hp7 => ?_⟩
  refine ⟨j, _, _, rfl, hp7, by omega, ⟨by decide, by decide⟩, fun r8 cs8 hr8 hc8 hp8 => ?_⟩
  refine ⟨le_line (show 4 ≤ 100000 by decide), rfl, j, _, _, rfl, hp8, by omega, ⟨by decide, by decide⟩, fun r9 cs9 hr9 hc9 hp9 => ?_⟩
  obtain ⟨z3, a3, b3, c3⟩ := pickI (lo := 0) (hi := 999) (ds := [.int r7, .int r8, .int 0, .int 999]) (i := r9) (.cons (by omega) (by omega) (.cons (by omega) (by omega) (.cons (by omega) (by omega) (.cons (by omega) (by omega) .nil)))) (by omega) (by show r9 < 4; omega)
  refine ⟨_, _, rfl, a3, ?_⟩
  refine ⟨j, _, _, rfl, hp9, by omega, ⟨by decide, by decide⟩, fun r10 cs10 hr10 hc10 hp10 => ?_⟩
  refine ⟨le_line (show 3 ≤ 100000 by decide), j, _, _, rfl, hp10, by omega, ⟨by decide, by decide⟩, fun r11 cs11 hr11 hc11 hp11 => ?_⟩
  obtain ⟨z4, a4, b4, c4⟩ := pickI (lo := 0) (hi := 999) (ds := [.int r10, .int 0, .int 999]) (i := r11) (.cons (by omega) (by omega) (.cons (by omega) (by omega) (.cons (by omega) (by omega) .nil))) (by omega) (by show r11 < 3; omega)
  refine ⟨_, a4, le_line (show 5 ≤ 100000 by decide), ?_⟩
  exact h ⟨z1, z2, z3, z4⟩ cs11 ⟨⟨b1, c1⟩, ⟨b2, c2⟩, ⟨b3, c3⟩, ⟨b4, c4⟩⟩ ((((((((((hc1.trans hc2).trans hc3).trans hc4).trans hc5).trans hc6).trans hc7).trans hc8).trans hc9).trans hc10).trans hc11) (hp11.mono (by omega))

/-! _law_rule -/
def f_law_rule : FD := fun ss cs _ Q => ∃ (j B : Nat), ss = [.c j] ∧ PotAt cs j B ∧ B ≤ 2 ^ 39 - 100 ∧ ∀ (R : Ru) cs', R.Ok → Chg j cs cs' → PotAt cs' j (B + 30) → Q R.d cs'

theorem sc_law_rule : FnScope ["pot", "way"] ["pot"] (defScope s_law_rule) := ⟨rfl, rfl, rfl, by decide +kernel, rfl, by decide +kernel, by decide +kernel⟩
theorem ok_law_rule (T : Txt mg) (G_law_take : Cal P w K mg base 1 "_law_take" ["pot", "many"] f_law_take) (G_law_late_rule : Cal P w K mg base 2 "_law_late_rule" ["pot"] f_law_late_rule) (G_law_share_rule : Cal P w K mg base 2 "_law_share_rule" ["pot"] f_law_share_rule) {a : Addr} {fd : FuncData} (F : FunD K "_law_rule" "_law_rule" (defArgs s_law_rule) (defBody s_law_rule) (defScope s_law_rule) [] [] a fd) (hb : Binds K fd ["pot"] []) (hm : mg "_law_rule" = some (.ref a)) : Cal P w K mg base 3 "_law_rule" ["pot"] f_law_rule := by
  refine cal_of F sc_law_rule hb hm (fun ss cs Ed Q h => ?_) (fun cdv A outer s H E hr => (q_scons (q_set 1 sc_law_rule.nd (q_call G_law_take (hr.mono (by decide)) (passes_call (takes_of rfl rfl rfl rfl) fun _ _ _ _ h => h) (q_consV 0 (pv 0) (q_cons q_int q_nil))))
      (q_scons (q_ifS (q_tcmp (op_eqD hr.units) sr_eq (q_var 1) q_int)
      (q_sone (q_ret (q_tup (q_cons q_str q_nil))))
      q_snil)
      (q_sone (q_ret (q_if (q_tcmp op_lt sr_lt (q_var 1) q_int) (q_call G_law_late_rule (hr.mono (by decide)) (passes_call (takes_of rfl rfl rfl rfl) fun _ _ _ _ h => h) (q_consV 0 (pv 0) q_nil)) (q_call G_law_share_rule (hr.mono (by decide)) (passes_call (takes_of rfl rfl rfl rfl) fun _ _ _ _ h => h) (q_consV 0 (pv 0) q_nil)))))))) ?_
  · obtain ⟨_, _, rfl, _⟩ := h; rfl
  intro ss cs Ed Qd h
  obtain ⟨j, B, rfl, hp0, hB, h⟩ := h
  refine ⟨j, _, _, rfl, hp0, by omega, ⟨by decide, by decide⟩, fun r1 cs1 hr1 hc1 hp1 => ?_⟩
  refine ⟨rfl, rfl, if2 (fun q => ?_) fun q => ?_⟩
  · exact ⟨le_line (show 1 ≤ 100000 by decide), h .none cs1 trivial hc1 (hp1.mono (by omega))⟩
  · refine ifD2 (fun q => ?_) fun q => ?_
    · exact ⟨j, _, rfl, hp1, by omega, fun r cs2 hr hc2 hp2 => h (.late r) cs2 hr (hc1.trans hc2) (hp2.mono (by omega))⟩
    · exact ⟨j, _, rfl, hp1, by omega, fun r cs2 hr hc2 hp2 => h (.share r) cs2 hr (hc1.trans hc2) (hp2.mono (by omega))⟩

/-! _law_stream -/
def f_law_stream : FD := fun ss cs _ Q => ∃ (j B : Nat), ss = [.c j] ∧ PotAt cs j B ∧ B ≤ 2 ^ 38 ∧ ∀ (s : St) cs', s.Ok → Chg j cs cs' → PotAt cs' j (B + 60) → Q s.d cs'

theorem sc_law_stream : FnScope ["pot", "weight", "some"] ["pot"] (defScope s_law_stream) := ⟨rfl, rfl, rfl, by decide +kernel, rfl, by decide +kernel, by decide +kernel⟩
theorem ok_law_stream (T : Txt mg) (G_law_take : Cal P w K mg base 1 "_law_take" ["pot", "many"] f_law_take) (G_law_rule : Cal P w K mg base 3 "_law_rule" ["pot"] f_law_rule) {a : Addr} {fd : FuncData} (F : FunD K "_law_stream" "_law_stream" (defArgs s_law_stream) (defBody s_law_stream) (defScope s_law_stream) [] [] a fd) (hb : Binds K fd ["pot"] []) (hm : mg "_law_stream" = some (.ref a)) : Cal P w K mg base 4 "_law_stream" ["pot"] f_law_stream := by
  refine cal_of F sc_law_stream hb hm (fun ss cs Ed Q h => ?_) (fun cdv A outer s H E hr => (q_scons (q_set 1 sc_law_stream.nd (q_ix (q_lst (q_cons q_int (q_cons (q_bin op_plus sr_plus q_int (q_call G_law_take (hr.mono (by decide)) (passes_call (takes_of rfl rfl rfl rfl) fun _ _ _ _ h => h) (q_consV 0 (pv 0) (q_cons q_int q_nil)))) (q_cons (q_bin op_plus sr_plus q_int (q_call G_law_take (hr.mono (by decide)) (passes_call (takes_of rfl rfl rfl rfl) fun _ _ _ _ h => h) (q_consV 0 (pv 0) (q_cons q_int q_nil)))) (q_cons q_int q_nil))))) (q_call G_law_take (hr.mono (by decide)) (passes_call (takes_of rfl rfl rfl rfl) fun _ _ _ _ h => h) (q_consV 0 (pv 0) (q_cons q_int q_nil)))))
      (q_scons (q_set 2 sc_law_stream.nd (q_lst (q_cons (q_bin op_plus sr_plus q_int (q_call G_law_take (hr.mono (by decide)) (passes_call (takes_of rfl rfl rfl rfl) fun _ _ _ _ h => h) (q_consV 0 (pv 0) (q_cons q_int q_nil)))) (q_cons (q_bin op_plus sr_plus q_int (q_call G_law_take (hr.mono (by decide)) (passes_call (takes_of rfl rfl rfl rfl) fun _ _ _ _ h => h) (q_consV 0 (pv 0) (q_cons q_int q_nil)))) (q_cons (q_bin op_plus sr_plus q_int (q_call G_law_take (hr.mono (by decide)) (passes_call (takes_of rfl rfl rfl rfl) fun _ _ _ _ h => h) (q_consV 0 (pv 0) (q_cons q_int q_nil)))) q_nil)))))
      (q_sone (q_ret (q_tup (q_consV 1 (pv 1) (q_cons (q_call G_law_rule (hr.mono (by decide)) (passes_call (takes_of rfl rfl rfl rfl) fun _ _ _ _ h => h) (q_consV 0 (pv 0) q_nil)) (q_cons (q_ixV 2 (pv 2) (q_call G_law_take (hr.mono (by decide)) (passes_call (takes_of rfl rfl rfl rfl) fun _ _ _ _ h => h) (q_consV 0 (pv 0) (q_cons q_int q_nil)))) q_nil))))))))) ?_
  · obtain ⟨_, _, rfl, _⟩ := h; rfl
  intro ss cs Ed Qd h
  obtain ⟨j, B, rfl, hp0, hB, h⟩ := h
  refine ⟨j, _, _, rfl, hp0, by omega, ⟨by decide, by decide⟩, fun r1 cs1 hr1 hc1 hp1 => ?_⟩
  refine ⟨j, _, _, rfl, hp1, by omega, ⟨by decide, by decide⟩, fun r2 cs2 hr2 hc2 hp2 => ?_⟩
  refine ⟨le_line (show 4 ≤ 100000 by decide), j, _, _, rfl, hp2, by omega, ⟨by decide, by decide⟩, fun r3 cs3 hr3 hc3 hp3 => ?_⟩
  obtain ⟨z1, a1, b1, c1⟩ := pickI (lo := 1) (hi := 9) (ds := [.int 1, .int (1 + r1), .int (1 + r2), .int 9]) (i := r3) (.cons (by omega) (by omega) (.cons (by omega) (by omega) (.cons (by omega) (by omega) (.cons (by omega) (by omega) .nil)))) (by omega) (by show r3 < 4; omega)
  refine ⟨_, a1, j, _, _, rfl, hp3, by omega, ⟨by decide, by decide⟩, fun r4 cs4 hr4 hc4 hp4 => ?_⟩
  refine ⟨j, _, _, rfl, hp4, by omega, ⟨by decide, by decide⟩, fun r5 cs5 hr5 hc5 hp5 => ?_⟩
  refine ⟨j, _, _, rfl, hp5, by omega, ⟨by decide, by decide⟩, fun r6 cs6 hr6 hc6 hp6 => ?_⟩
  refine ⟨le_line (show 3 ≤ 100000 by decide), j, _, rfl, hp6, by omega, fun R cs7 hR hc7 hp7 => ?_⟩
  refine ⟨rfl, j, _, _, rfl, hp7, by omega, ⟨by decide, by decide⟩, fun r8 cs8 hr8 hc8 hp8 => ?_⟩
  obtain ⟨z2, a2, b2, c2⟩ := pickI (lo := 1) (hi := 99) (ds := [.int (1 + r4), .int (10 + r5), .int (1 + r6)]) (i := r8) (.cons (by omega) (by omega) (.cons (by omega) (by omega) (.cons (by omega) (by omega) .nil))) (by omega) (by show r8 < 3; omega)
  refine ⟨_, _, rfl, a2, le_line (show 3 ≤ 100000 by decide), ?_⟩
  exact h ⟨z1, R, z2⟩ cs8 ⟨⟨b1, c1⟩, hR, ⟨b2, c2⟩⟩ (((((((hc1.trans hc2).trans hc3).trans hc4).trans hc5).trans hc6).trans hc7).trans hc8) (hp8.mono (by omega))

end
end Law

namespace Law
open PySem PySem.Spec PyProof.Rows L2 Kp
abbrev s_law_came : Stmt := topS 76
abbrev s_law_went : Stmt := topS 77

theorem cut1 (p : Pc) (r : List Pc) : Kp.cutD (pcs (p :: r)) (some 1) none = pcs r := by
  have e1 : HT.sIx (pcs (p :: r)).length 0 (some 1) = 1 := by
    show (if (1 : Int) < 0 then ((1 : Int) + ((pcs (p :: r)).length : Int)).toNat else min (1 : Int).toNat (pcs (p :: r)).length) = 1
    rw [if_neg (by decide), pcs_len, List.length_cons]
    exact Nat.min_eq_left (by show 1 ≤ r.length + 1; omega)
  unfold Kp.cutD
  rw [e1]
  show (pcs r).take ((pcs r).length + 1 - 1) = pcs r
  rw [Nat.add_sub_cancel, List.take_length]
theorem at_last (ds : List PyData) (x : PyData) (h : ds.length ≤ 1000) : atI (ds ++ [x]) (-1) = some x := by
  have hl : (ds ++ [x]).length = ds.length + 1 := by rw [List.length_append]; rfl
  have e : ixN (ds ++ [x]).length (-1) = some ds.length := by
    rw [hl]
    unfold ixN
    rw [if_neg (by decide), if_pos (by omega)]
    congr 1
    omega
  unfold atI
  rw [e]
  show (ds ++ [x])[ds.length]? = some x
  rw [List.getElem?_append_right (Nat.le_refl _), Nat.sub_self]; rfl
theorem pcs_snoc (ps : List Pc) (p : Pc) : pcs (ps ++ [p]) = pcs ps ++ [p.d] := by unfold pcs; rw [List.map_append]; rfl
theorem two_lay (cr : Int) (ps : List Pc) : Lay (.tuple [.int cr, .tuple (pcs ps)]) 3 := Lay.tuple (dp := 2) (.cons .int (.cons (Lay.tuple (pcs_lay ps)) .nil))
theorem ps_lay (ps : List Pc) : Lay (.tuple (pcs ps)) 2 := Lay.tuple (pcs_lay ps)
def Pc.inc (p : Pc) : Pc := ⟨p.sz, p.can, p.mkd, p.wt + 1⟩
theorem older_inc {ps : List Pc} {n : Int} (h : Wb n ps) (hn : n ≤ 1000) : ps.map Pc.older = ps.map Pc.inc := by
  refine List.map_congr_left fun p hp => ?_
  have := h p hp
  show (⟨p.sz, p.can, p.mkd, if 1000000 < p.wt + 1 then 1000000 else p.wt + 1⟩ : Pc) = ⟨p.sz, p.can, p.mkd, p.wt + 1⟩
  rw [if_neg (by omega)]
def draws (n : Nat) : Int := if (n : Int) > 1 then (n : Int) else 1
theorem draws_ok {n : Nat} (h : (n : Int) ≤ 6) : 1 ≤ draws n ∧ draws n ≤ 6 := by unfold draws; split <;> omega
theorem two {cs' : CS} {m : List PyData} (h : cs'.length = 2) (h0 : cs'[0]? = some m) : ∃ d, cs' = [m, d] := by
  match cs', h, h0 with
  | [a, b], _, h0 =>
    cases h0
    exact ⟨b, rfl⟩
theorem sFF : PyData.eqv (.str "full") (.str "full") = true := by decide +kernel
theorem sDF : PyData.eqv (.str "drop") (.str "full") = false := by decide +kernel
theorem sMF : PyData.eqv (.str "mark") (.str "full") = false := by decide +kernel
theorem sCF : PyData.eqv (.str "come") (.str "full") = false := by decide +kernel
theorem sDD : PyData.eqv (.str "drop") (.str "drop") = true := by decide +kernel
theorem sMD : PyData.eqv (.str "mark") (.str "drop") = false := by decide +kernel
theorem sCD : PyData.eqv (.str "come") (.str "drop") = false := by decide +kernel
theorem sMM : PyData.eqv (.str "mark") (.str "mark") = true := by decide +kernel
theorem sCM : PyData.eqv (.str "come") (.str "mark") = false := by decide +kernel
theorem sBD : PyData.eqv (.str "bell") (.str "drop") = false := by decide +kernel
theorem sED : PyData.eqv (.str "send") (.str "drop") = false := by decide +kernel
theorem sDE : PyData.eqv (.str "drop") (.str "send") = false := by decide +kernel
theorem sBE : PyData.eqv (.str "bell") (.str "send") = false := by decide +kernel
theorem sEE : PyData.eqv (.str "send") (.str "send") = true := by decide +kernel
theorem inCM : ([("come" : Str), "mark"].any (· == ("mark" : Str))) = true := by decide +kernel
theorem inCC : ([("come" : Str), "mark"].any (· == ("come" : Str))) = true := by decide +kernel
theorem inE : ([("send" : Str), "bell", "drop"].any (· == ("send" : Str))) = true := by decide +kernel
theorem inB : ([("send" : Str), "bell", "drop"].any (· == ("bell" : Str))) = true := by decide +kernel
theorem inD : ([("send" : Str), "bell", "drop"].any (· == ("drop" : Str))) = true := by decide +kernel
section
variable {P : Program} {w : World} {K : Frag} {mg : Str → Option Value} {base : Heap}
/-! _law_came -/
def f_law_came : FD := fun ss cs _ Q => ∃ (j i B : Nat) (s : St) (l : Ln), ss = [.c j, .d s.d, .d l.d, .c i] ∧ i ≠ j ∧ s.Ok ∧ l.Ok s ∧ l.cr = 0 ∧ cs[i]? = some (pcs l.ps) ∧ PotAt cs j B ∧ B ≤ 2 ^ 38 ∧ ∀ (l' : Ln) cs', l'.Ok s → l'.cr = 0 → (∀ n, 0 ≤ n → Wb n l.ps → Wb n l'.ps) → cs'.length = cs.length → cs'[i]? = some (pcs l'.ps) → PotAt cs' j (B + 2) → Q l'.d cs'

theorem sc_law_came : FnScope ["pot", "stream", "lane", "kept", "size", "may", "told", "word", "marked"] ["pot", "stream", "lane", "kept"] (defScope s_law_came) := ⟨rfl, rfl, rfl, by decide +kernel, rfl, by decide +kernel, by decide +kernel⟩
theorem ok_law_came (T : Txt mg) (G_put_in : CalK P w K mg base 9 "put_in" ["stream", "lane", "size", "can"] 3 "can" true f_put_in) (G_law_take : Cal P w K mg base 1 "_law_take" ["pot", "many"] f_law_take) {a : Addr} {fd : FuncData} (F : FunD K "_law_came" "_law_came" (defArgs s_law_came) (defBody s_law_came) (defScope s_law_came) [] [] a fd) (hb : Binds K fd ["pot", "stream", "lane", "kept"] []) (hm : mg "_law_came" = some (.ref a)) : Cal P w K mg base 10 "_law_came" ["pot", "stream", "lane", "kept"] f_law_came := by
  refine cal_of F sc_law_came hb hm (fun ss cs Ed Q h => ?_) (fun cdv A outer s H E hr => (q_scons (q_set 4 sc_law_came.nd (q_bin op_plus sr_plus q_int (q_call G_law_take (hr.mono (by decide)) (passes_call (takes_of rfl rfl rfl rfl) fun _ _ _ _ h => h) (q_consV 0 (pv 0) (q_cons q_int q_nil)))))
      (q_scons (q_set 5 sc_law_came.nd (q_cmp op_gt sr_gt (q_call G_law_take (hr.mono (by decide)) (passes_call (takes_of rfl rfl rfl rfl) fun _ _ _ _ h => h) (q_consV 0 (pv 0) (q_cons q_int q_nil))) q_int))
      (q_scons (q_unp [6, 7] rfl (pgs_cons (pg_name (i := 6) sc_law_came.nd rfl (by first | exact Or.inl rfl | exact Or.inr rfl)) (pgs_cons (pg_name (i := 7) sc_law_came.nd rfl (by first | exact Or.inl rfl | exact Or.inr rfl)) pgs_nil)) (q_callK 5 (pv 5) G_put_in (hr.mono (by decide)) (passes_call (takes_of rfl rfl rfl rfl) fun _ _ _ _ h => h) (q_consV 1 (pv 1) (q_consV 2 (pv 2) (q_consV 4 (pv 4) q_nil)))))
      (q_scons (q_ifS (q_tcmp (op_eqD hr.units) sr_eq (q_var 7) q_str)
      (q_sone (q_ret (q_if (q_w (q_and (q_tcmp (op_eqD hr.units) sr_eq (q_var 6) (q_var 2)) (q_and1 (q_tcmp (op_eqD hr.units) sr_eq (q_lenV 3 (pv 3) T.f_len) (q_ixV 1 (pv 1) q_int))))) (q_var 6) q_non)))
      q_snil)
      (q_scons (q_ifS (q_w (q_and (q_tcmp (op_eqD hr.units) sr_eq (q_var 7) q_str) (q_and (q_not (q_tv (q_var 5))) (q_and1 (q_tcmp (op_eqD hr.units) sr_eq (q_ix (q_ixV 1 (pv 1) q_int) q_int) q_str)))))
      (q_sone (q_ret (q_if (q_tcmp (op_eqD hr.units) sr_eq (q_slV 6 (pv 6) q_no (q_part q_int)) (q_slV 2 (pv 2) q_no (q_part q_int))) (q_var 6) q_non)))
      q_snil)
      (q_scons (q_set 8 sc_law_came.nd (q_cmp (op_eqD hr.units) sr_eq (q_var 7) q_str))
      (q_scons (q_ifS (q_w (q_or (q_tcmp op_notIn_seq (sr_inS true) (q_var 7) (q_tup (q_cons q_str (q_cons q_str q_nil)))) (q_or1 (q_w (q_and (q_tv (q_var 8)) (q_and1 (q_w (q_or (q_not (q_tv (q_var 5))) (q_or1 (q_tcmp (op_neD hr.units) sr_ne (q_ix (q_ixV 1 (pv 1) q_int) q_int) q_str))))))))))
      (q_sone (q_ret q_non))
      q_snil)
      (q_scons (q_app 3 (pv 3) (q_tup (q_consV 4 (pv 4) (q_consV 5 (pv 5) (q_consV 8 (pv 8) (q_cons q_int q_nil))))))
      (q_sone (q_ret (q_if (q_tcmp (op_eqD hr.units) sr_eq (q_ixV 6 (pv 6) q_int) (q_bin op_plus sr_plus (q_ixV 2 (pv 2) q_int) (q_tup (q_cons (q_ixV 3 (pv 3) (q_neg q_int)) q_nil)))) (q_var 6) q_non)))))))))))) ?_
  · obtain ⟨_, _, _, _, _, rfl, _⟩ := h; rfl
  intro ss cs Ed Qd h
  obtain ⟨j, i, B, s, l, rfl, hij, hs, hl, h0, hi0, hp0, hB, h⟩ := h
  obtain ⟨a, rr, hRd, hsh, hS, hL⟩ := s.R.first
  have e1 : atI [PyData.int s.w, s.R.d, .int s.lim] 1 = some (.tuple (.str a :: rr)) := by rw [← hRd]; rfl
  have hll := hl.len
  have hlim := hs.lim
  refine ⟨j, _, _, rfl, hp0, by omega, ⟨by decide, by decide⟩, fun r1 cs1 hr1 hc1 hp1 => ?_⟩
  dsimp only [DN.push, dNext, dPlus]
  refine d_mid (fun ρ' cs' => ∃ (may : Bool), ρ' = [.c j, .d s.d, .d l.d, .c i, .d (.int (1 + r1)), .d (.bool may), .no, .no, .no] ∧ Chg j cs1 cs' ∧ PotAt cs' j (B + 1 + 1)) (fun D1 _ _ hN => ?_) ?_
  · refine ⟨j, _, _, rfl, hp1, by omega, ⟨by decide, by decide⟩, fun r2 cs2 hr2 hc2 hp2 => ?_⟩
    exact hN _ _ ⟨_, rfl, hc2, hp2⟩
  rintro ρ cs2 ⟨may, rfl, hc2, hp2⟩
  have hi2 : cs2[i]? = some (pcs l.ps) := (hc2.2 i hij).trans ((hc1.2 i hij).trans hi0)
  have hl2 : i < cs2.length := (List.getElem?_eq_some_iff.mp hi2).1
  have hlen : cs2.length = cs.length := hc2.1.trans hc1.1
  refine ⟨rfl, s, l, 1 + r1, may, rfl, hs, hl, ⟨by omega, by omega⟩, ?_⟩
  have ho := comeL_ok (sz := 1 + r1) (can := may) hs hl ⟨by omega, by omega⟩
  by_cases full : (l.ps.length : Int) = s.lim
  · have hc : comeL s l (1 + r1) may = ((l, "full") : Ln × Str) := by unfold comeL; rw [if_pos full]
    rw [hc]
    refine ⟨_, rfl, wF, wF, ifT sFF ⟨(Ln.lay hl).shaped (by decide), (Ln.lay hl).shaped (by decide), ifT (Ln.lay hl).eqv ?_⟩⟩
    refine ⟨_, hi2, rfl, _, _, rfl, rfl, rfl, rfl, ifT (by rw [eqv_int, pcs_len]; exact decide_eq_true full) ?_⟩
    exact h l cs2 hl h0 (fun _ _ hb => hb) hlen hi2 (hp2.mono (by omega))
  have hit := fun q => comeR_hit hl.M q
  have hc : comeL s l (1 + r1) may = ((if (comeR l.M).2 = true ∧ may = false then (⟨l.cr, l.ps, (comeR l.M).1⟩, "drop") else (⟨l.cr, l.ps ++ [⟨1 + r1, may, (comeR l.M).2, 0⟩], (comeR l.M).1⟩, if (comeR l.M).2 = true then "mark" else "come")) : Ln × Str) := by unfold comeL; rw [if_neg full]
  rw [hc] at ho ⊢
  generalize (comeR l.M).1 = M' at *
  generalize (comeR l.M).2 = st at *
  cases st with
  | true =>
    have his := hit rfl
    cases may with
    | false =>
      rw [if_pos ⟨rfl, rfl⟩] at ho ⊢
      refine ⟨_, rfl, wD, wF, ifF sDF ?_⟩
      refine ⟨wD, wD, ifT sDD ⟨rfl, _, PyData.tuple (.str a :: rr), rfl, e1, .str a, at_data (by decide) rfl, hsh, shS, ifT (hS.trans his) ?_⟩⟩
      refine ⟨rfl, _, rfl, rfl, _, rfl, ?_⟩
      refine ⟨(two_lay l.cr l.ps).shaped (by decide), (two_lay l.cr l.ps).shaped (by decide), ifT (two_lay l.cr l.ps).eqv ?_⟩
      exact h ⟨l.cr, l.ps, M'⟩ cs2 ho h0 (fun _ _ hb => hb) hlen hi2 (hp2.mono (by omega))
    | true =>
      rw [if_neg (fun z => by cases z.2), if_pos rfl] at ho ⊢
      refine ⟨_, rfl, ?_⟩
      dsimp only
      refine ⟨wM, wF, ifF sMF ?_⟩
      refine ⟨wM, wD, ifF sMD ?_⟩
      refine ⟨wM, wM, ?_⟩
      rw [sMM]
      dsimp only [DN.push, dNext]
      refine d_mid (fun ρ' cs' => ρ' = [.c j, .d s.d, .d l.d, .c i, .d (.int (1 + r1)), .d (.bool true), .d (Ln.d ⟨l.cr, l.ps ++ [⟨1 + r1, true, true, 0⟩], M'⟩), .d (.str "mark"), .d (.bool true)] ∧ cs' = cs2) (fun D1 _ _ hN => ?_) ?_
      · refine ⟨le_line (show 2 ≤ 100000 by decide), ["come", "mark"], rfl, ifNT inCM ?_⟩
        refine ⟨rfl, _, PyData.tuple (.str a :: rr), rfl, e1, .str a, at_data (by decide) rfl, hsh, shS, ifNT (hS.trans his) ?_⟩
        exact hN _ _ ⟨rfl, rfl⟩
      rintro ρ cs3 ⟨rfl, rfl⟩
      refine ⟨Option.isSome_iff_exists.mpr ⟨_, hi2⟩, le_line (show 4 ≤ 100000 by decide), _, hi2, lt_line (by rw [pcs_len]; omega), ?_⟩
      have hi3 : (cs3.set i (pcs l.ps ++ [Pc.d ⟨1 + r1, true, true, 0⟩]))[i]? = some (pcs l.ps ++ [Pc.d ⟨1 + r1, true, true, 0⟩]) := List.getElem?_set_self hl2
      refine ⟨rfl, _, _, rfl, rfl, rfl, _, _, rfl, rfl, Option.isSome_iff_exists.mpr ⟨_, hi3⟩, _, _, hi3, at_last _ _ (by rw [pcs_len]; omega), le_line (show 1 ≤ 100000 by decide), le_line (show (pcs l.ps).length + 1 ≤ 100000 by rw [pcs_len]; omega), ?_⟩
      rw [← pcs_snoc]
      refine ⟨(ps_lay _).shaped (by decide), (ps_lay _).shaped (by decide), ifT (ps_lay _).eqv ?_⟩
      refine h ⟨l.cr, l.ps ++ [⟨1 + r1, true, true, 0⟩], M'⟩ (cs3.set i (pcs l.ps ++ [Pc.d ⟨1 + r1, true, true, 0⟩])) ho h0 (fun n hn hb p hp => ?_) (List.length_set.trans hlen) ?_ ((hp2.over (Ne.symm hij)).mono (by omega))
      · rcases List.mem_append.mp hp with q | q
        · exact hb p q
        · rw [List.mem_singleton.mp q]; exact hn
      · show _ = some (pcs (l.ps ++ [_]))
        rw [pcs_snoc]
        exact hi3

  | false =>
    rw [if_neg (fun z => by cases z.1), if_neg (show ¬ (false = true) by decide)] at ho ⊢
    refine ⟨_, rfl, ?_⟩
    dsimp only
    refine ⟨wC, wF, ifF sCF ?_⟩
    refine ⟨wC, wD, ifF sCD ?_⟩
    refine ⟨wC, wM, ?_⟩
    rw [sCM]
    dsimp only [DN.push, dNext]
    refine d_mid (fun ρ' cs' => ρ' = [.c j, .d s.d, .d l.d, .c i, .d (.int (1 + r1)), .d (.bool may), .d (Ln.d ⟨l.cr, l.ps ++ [⟨1 + r1, may, false, 0⟩], M'⟩), .d (.str "come"), .d (.bool false)] ∧ cs' = cs2) (fun D1 _ _ hN => ?_) ?_
    · refine ⟨le_line (show 2 ≤ 100000 by decide), ["come", "mark"], rfl, ifNT inCC ?_⟩
      exact hN _ _ ⟨rfl, rfl⟩
    rintro ρ cs3 ⟨rfl, rfl⟩
    refine ⟨Option.isSome_iff_exists.mpr ⟨_, hi2⟩, le_line (show 4 ≤ 100000 by decide), _, hi2, lt_line (by rw [pcs_len]; omega), ?_⟩
    have hi3 : (cs3.set i (pcs l.ps ++ [Pc.d ⟨1 + r1, may, false, 0⟩]))[i]? = some (pcs l.ps ++ [Pc.d ⟨1 + r1, may, false, 0⟩]) := List.getElem?_set_self hl2
    refine ⟨rfl, _, _, rfl, rfl, rfl, _, _, rfl, rfl, Option.isSome_iff_exists.mpr ⟨_, hi3⟩, _, _, hi3, at_last _ _ (by rw [pcs_len]; omega), le_line (show 1 ≤ 100000 by decide), le_line (show (pcs l.ps).length + 1 ≤ 100000 by rw [pcs_len]; omega), ?_⟩
    rw [← pcs_snoc]
    refine ⟨(ps_lay _).shaped (by decide), (ps_lay _).shaped (by decide), ifT (ps_lay _).eqv ?_⟩
    refine h ⟨l.cr, l.ps ++ [⟨1 + r1, may, false, 0⟩], M'⟩ (cs3.set i (pcs l.ps ++ [Pc.d ⟨1 + r1, may, false, 0⟩])) ho h0 (fun n hn hb p hp => ?_) (List.length_set.trans hlen) ?_ ((hp2.over (Ne.symm hij)).mono (by omega))
    · rcases List.mem_append.mp hp with q | q
      · exact hb p q
      · rw [List.mem_singleton.mp q]; exact hn
    · show _ = some (pcs (l.ps ++ [_]))
      rw [pcs_snoc]
      exact hi3


/-! _law_went -/
def f_law_went : FD := fun ss cs _ Q => ∃ (i : Nat) (s : St) (l : Ln) (p : Pc) (r : List Pc), ss = [.d s.d, .d l.d, .c i] ∧ s.Ok ∧ l.Ok s ∧ l.cr = 0 ∧ l.ps = p :: r ∧ cs[i]? = some (pcs l.ps) ∧ ∀ (l' : Ln), l'.Ok s → l'.cr = 0 → l'.ps = r → Q l'.d (cs.set i (pcs r))

theorem sc_law_went : FnScope ["stream", "lane", "kept", "size", "may", "marked", "wait", "told", "word"] ["stream", "lane", "kept"] (defScope s_law_went) := ⟨rfl, rfl, rfl, by decide +kernel, rfl, by decide +kernel, by decide +kernel⟩
theorem ok_law_went (T : Txt mg) (G_head_out : Cal P w K mg base 9 "head_out" ["stream", "lane"] f_head_out) {a : Addr} {fd : FuncData} (F : FunD K "_law_went" "_law_went" (defArgs s_law_went) (defBody s_law_went) (defScope s_law_went) [] [] a fd) (hb : Binds K fd ["stream", "lane", "kept"] []) (hm : mg "_law_went" = some (.ref a)) : Cal P w K mg base 10 "_law_went" ["stream", "lane", "kept"] f_law_went := by
  refine cal_of F sc_law_went hb hm (fun ss cs Ed Q h => ?_) (fun cdv A outer s H E hr => (q_scons (q_unp [3, 4, 5, 6] rfl (pgs_cons (pg_name (i := 3) sc_law_went.nd rfl (by first | exact Or.inl rfl | exact Or.inr rfl)) (pgs_cons (pg_name (i := 4) sc_law_went.nd rfl (by first | exact Or.inl rfl | exact Or.inr rfl)) (pgs_cons (pg_name (i := 5) sc_law_went.nd rfl (by first | exact Or.inl rfl | exact Or.inr rfl)) (pgs_cons (pg_name (i := 6) sc_law_went.nd rfl (by first | exact Or.inl rfl | exact Or.inr rfl)) pgs_nil)))) (q_pop0 2 (pv 2)))
      (q_scons (q_unp [7, 8] rfl (pgs_cons (pg_name (i := 7) sc_law_went.nd rfl (by first | exact Or.inl rfl | exact Or.inr rfl)) (pgs_cons (pg_name (i := 8) sc_law_went.nd rfl (by first | exact Or.inl rfl | exact Or.inr rfl)) pgs_nil)) (q_call G_head_out (hr.mono (by decide)) (passes_call (takes_of rfl rfl rfl rfl) fun _ _ _ _ h => h) (q_consV 0 (pv 0) (q_consV 1 (pv 1) q_nil))))
      (q_scons (q_ifS (q_w (q_and (q_tcmp (op_eqD hr.units) sr_eq (q_var 8) q_str) (q_and1 (q_w (q_or (q_tv (q_var 4)) (q_or1 (q_tv (q_var 5))))))))
      (q_sone (q_ret q_non))
      q_snil)
      (q_scons (q_ifS (q_w (q_or (q_w (q_and (q_tcmp (op_eqD hr.units) sr_eq (q_var 8) q_str) (q_and1 (q_tv (q_var 5))))) (q_or1 (q_tcmp op_notIn_seq (sr_inS true) (q_var 8) (q_tup (q_cons q_str (q_cons q_str (q_cons q_str q_nil))))))))
      (q_sone (q_ret q_non))
      q_snil)
      (q_scons (q_ifS (q_w (q_and (q_tcmp (op_neD hr.units) sr_ne (q_var 8) q_str) (q_and (q_not (q_tv (q_var 5))) (q_and1 (q_tcmp (op_neD hr.units) sr_ne (q_ix (q_ixV 0 (pv 0) q_int) q_int) q_str)))))
      (q_sone (q_ret q_non))
      q_snil)
      (q_sone (q_ret (q_if (q_tcmp (op_eqD hr.units) sr_eq (q_ixV 7 (pv 7) q_int) (q_sl (q_ixV 1 (pv 1) q_int) (q_part q_int) q_no)) (q_var 7) q_non))))))))) ?_
  · obtain ⟨_, _, _, _, _, rfl, _⟩ := h; rfl
  intro ss cs Ed Qd h
  obtain ⟨i, s, ⟨cr, ps, M⟩, ⟨sz, can, mk, wt⟩, r, rfl, hs, hl, h0, e, hi0, h⟩ := h
  have e' : ps = ⟨sz, can, mk, wt⟩ :: r := e
  subst e'
  obtain ⟨a, rr, hRd, hsh, hS, hL⟩ := s.R.first
  have e1 : atI [PyData.int s.w, s.R.d, .int s.lim] 1 = some (.tuple (.str a :: rr)) := by rw [← hRd]; rfl
  have hmk : mk = true → can = true := (hl.ps ⟨sz, can, mk, wt⟩ List.mem_cons_self).mkd
  refine ⟨Pc.d ⟨sz, can, mk, wt⟩, pcs r, hi0, _, rfl, s, ⟨cr, ⟨sz, can, mk, wt⟩ :: r, M⟩, ⟨sz, can, mk, wt⟩, r, rfl, hs, hl, rfl, ?_⟩
  have ho := outL_ok hs hl (p := ⟨sz, can, mk, wt⟩) (r := r) rfl
  have hcr : (outL s ⟨cr, ⟨sz, can, mk, wt⟩ :: r, M⟩ ⟨sz, can, mk, wt⟩ r).1.cr = 0 := by
    have h0' : cr = 0 := h0
    show (if r.length = 0 then 0 else cr) = 0
    rw [h0']; split <;> rfl
  have hit := fun q => lookR_hit (w := wt) (al := decide (r.length = 0)) hl.M q
  have hps : (outL s ⟨cr, ⟨sz, can, mk, wt⟩ :: r, M⟩ ⟨sz, can, mk, wt⟩ r).1.ps = r := rfl
  have hW : (outL s ⟨cr, ⟨sz, can, mk, wt⟩ :: r, M⟩ ⟨sz, can, mk, wt⟩ r).2 = outW (lookR s.R M wt (decide (r.length = 0))).2 ⟨sz, can, mk, wt⟩ := rfl
  rw [hW]
  generalize (lookR s.R M wt (decide (r.length = 0))).2 = st at *
  generalize (outL s ⟨cr, ⟨sz, can, mk, wt⟩ :: r, M⟩ ⟨sz, can, mk, wt⟩ r).1 = l' at *
  obtain ⟨cr', ps', M'⟩ := l'
  have hps' : ps' = r := hps
  subst hps'
  refine ⟨_, rfl, ?_⟩
  have fin : ∀ (Z : PyData → Prop), (∀ l' : Ln, l'.Ok s → l'.cr = 0 → l'.ps = ps' → Z l'.d) → Z (Ln.d ⟨cr', ps', M'⟩) := fun Z hz => hz ⟨cr', ps', M'⟩ ho hcr rfl
  dsimp only [DN.push, dNext]
  refine d_mid (fun ρ' cs' => ρ' = [.d s.d, .d (Ln.d ⟨cr, ⟨sz, can, mk, wt⟩ :: ps', M⟩), .c i, .d (.int sz), .d (.bool can), .d (.bool mk), .d (.int wt), .d (Ln.d ⟨cr', ps', M'⟩), .d (.str (outW st ⟨sz, can, mk, wt⟩))] ∧ cs' = cs.set i (pcs ps')) (fun D1 _ _ hN => ?_) ?_
  · cases st with
    | true =>
      cases can with
      | false =>
        cases mk with
        | true => cases hmk rfl
        | false => exact ⟨wD, wD, ifT sDD (hN _ _ ⟨rfl, rfl⟩)⟩
      | true => exact ⟨wB, wD, ifF sBD (hN _ _ ⟨rfl, rfl⟩)⟩
    | false =>
      cases mk with
      | true => exact ⟨wB, wD, ifF sBD (hN _ _ ⟨rfl, rfl⟩)⟩
      | false => exact ⟨wE, wD, ifF sED (hN _ _ ⟨rfl, rfl⟩)⟩
  rintro ρ cs2 ⟨rfl, rfl⟩
  dsimp only [DN.push, dNext]
  refine d_mid (fun ρ' cs' => ρ' = [.d s.d, .d (Ln.d ⟨cr, ⟨sz, can, mk, wt⟩ :: ps', M⟩), .c i, .d (.int sz), .d (.bool can), .d (.bool mk), .d (.int wt), .d (Ln.d ⟨cr', ps', M'⟩), .d (.str (outW st ⟨sz, can, mk, wt⟩))] ∧ cs' = cs.set i (pcs ps')) (fun D1 _ _ hN => ?_) ?_
  · have l3 := le_line (show 3 ≤ 100000 by decide)
    cases st with
    | true =>
      cases can with
      | false => exact ⟨wD, wE, ifF sDE ⟨l3, ["send", "bell", "drop"], rfl, ifNT inD (hN _ _ ⟨rfl, rfl⟩)⟩⟩
      | true => exact ⟨wB, wE, ifF sBE ⟨l3, ["send", "bell", "drop"], rfl, ifNT inB (hN _ _ ⟨rfl, rfl⟩)⟩⟩
    | false =>
      cases mk with
      | true => exact ⟨wB, wE, ifF sBE ⟨l3, ["send", "bell", "drop"], rfl, ifNT inB (hN _ _ ⟨rfl, rfl⟩)⟩⟩
      | false => exact ⟨wE, wE, ifT sEE ⟨l3, ["send", "bell", "drop"], rfl, ifNT inE (hN _ _ ⟨rfl, rfl⟩)⟩⟩
  rintro ρ cs2 ⟨rfl, rfl⟩
  dsimp only [DN.push, dNext]
  refine d_mid (fun ρ' cs' => ρ' = [.d s.d, .d (Ln.d ⟨cr, ⟨sz, can, mk, wt⟩ :: ps', M⟩), .c i, .d (.int sz), .d (.bool can), .d (.bool mk), .d (.int wt), .d (Ln.d ⟨cr', ps', M'⟩), .d (.str (outW st ⟨sz, can, mk, wt⟩))] ∧ cs' = cs.set i (pcs ps')) (fun D1 _ _ hN => ?_) ?_
  · cases st with
    | true =>
      have his := hit rfl
      cases can with
      | false =>
        cases mk with
        | true => cases hmk rfl
        | false => exact ⟨wD, wE, ifNF sDE ⟨rfl, _, PyData.tuple (.str a :: rr), rfl, e1, .str a, at_data (by decide) rfl, hsh, shL, ifNT (hL.trans his) (hN _ _ ⟨rfl, rfl⟩)⟩⟩
      | true =>
        cases mk with
        | true => exact ⟨wB, wE, ifNF sBE (hN _ _ ⟨rfl, rfl⟩)⟩
        | false => exact ⟨wB, wE, ifNF sBE ⟨rfl, _, PyData.tuple (.str a :: rr), rfl, e1, .str a, at_data (by decide) rfl, hsh, shL, ifNT (hL.trans his) (hN _ _ ⟨rfl, rfl⟩)⟩⟩
    | false =>
      cases mk with
      | true => exact ⟨wB, wE, ifNF sBE (hN _ _ ⟨rfl, rfl⟩)⟩
      | false => exact ⟨wE, wE, ifNT sEE (hN _ _ ⟨rfl, rfl⟩)⟩
  rintro ρ cs2 ⟨rfl, rfl⟩
  refine ⟨rfl, _, _, rfl, rfl, rfl, _, _, rfl, rfl, (ps_lay ps').shaped (by decide), (show SeqAt.shaped (.tuple (Kp.cutD (pcs (⟨sz, can, mk, wt⟩ :: ps')) (some 1) none)) = true by rw [cut1]; exact (ps_lay ps').shaped (by decide)), ifT (show PyData.eqv (.tuple (pcs ps')) (.tuple (Kp.cutD (pcs (⟨sz, can, mk, wt⟩ :: ps')) (some 1) none)) = true by rw [cut1]; exact (ps_lay ps').eqv) ?_⟩
  exact h ⟨cr', ps', M'⟩ ho hcr rfl

end
end Law

namespace Law
open PySem PySem.Spec PyProof.Rows L2 Kp
abbrev s_law_stepped : Stmt := topS 78
abbrev s_law : Stmt := topS 79
section
variable {P : Program} {w : World} {K : Frag} {mg : Str → Option Value} {base : Heap}
/-! _law_stepped -/
def f_law_stepped : FD := fun ss cs _ Q => ∃ (j i B : Nat) (s : St) (l : Ln) (n : Int), ss = [.c j, .d s.d, .d l.d, .c i] ∧ i ≠ j ∧ s.Ok ∧ l.Ok s ∧ l.cr = 0 ∧ Wb n l.ps ∧ (0 ≤ n ∧ n ≤ 1000) ∧ cs[i]? = some (pcs l.ps) ∧ PotAt cs j B ∧ B ≤ 2 ^ 37 ∧ ∀ (l' : Ln) cs', l'.Ok s → l'.cr = 0 → Wb (n + 1) l'.ps → cs'.length = cs.length → cs'[i]? = some (pcs l'.ps) → PotAt cs' j (B + 5) → Q l'.d cs'

theorem sc_law_stepped : FnScope ["pot", "stream", "lane", "kept", "way", "told", "at", "piece"] ["pot", "stream", "lane", "kept"] (defScope s_law_stepped) := ⟨rfl, rfl, rfl, by decide +kernel, rfl, by decide +kernel, by decide +kernel⟩
theorem ok_law_stepped (T : Txt mg) (G_law_take : Cal P w K mg base 1 "_law_take" ["pot", "many"] f_law_take) (G_lane_passed : Cal P w K mg base 9 "lane_passed" ["stream", "lane"] f_lane_passed) (G_law_came : Cal P w K mg base 10 "_law_came" ["pot", "stream", "lane", "kept"] f_law_came) (G_law_went : Cal P w K mg base 10 "_law_went" ["stream", "lane", "kept"] f_law_went) (G_lane_renewed : Cal P w K mg base 9 "lane_renewed" ["stream", "lane"] f_lane_renewed) {a : Addr} {fd : FuncData} (F : FunD K "_law_stepped" "_law_stepped" (defArgs s_law_stepped) (defBody s_law_stepped) (defScope s_law_stepped) [] [] a fd) (hb : Binds K fd ["pot", "stream", "lane", "kept"] []) (hm : mg "_law_stepped" = some (.ref a)) : Cal P w K mg base 11 "_law_stepped" ["pot", "stream", "lane", "kept"] f_law_stepped := by
  refine cal_of F sc_law_stepped hb hm (fun ss cs Ed Q h => ?_) (fun cdv A outer s H E hr => (q_scons (q_set 4 sc_law_stepped.nd (q_call G_law_take (hr.mono (by decide)) (passes_call (takes_of rfl rfl rfl rfl) fun _ _ _ _ h => h) (q_consV 0 (pv 0) (q_cons q_int q_nil))))
      (q_scons (q_ifS (q_tcmp op_lt sr_lt (q_var 4) q_int)
      (q_sone (q_ret (q_call G_law_came (hr.mono (by decide)) (passes_call (takes_of rfl rfl rfl rfl) fun _ _ _ _ h => h) (q_consV 0 (pv 0) (q_consV 1 (pv 1) (q_consV 2 (pv 2) (q_consV 3 (pv 3) q_nil)))))))
      q_snil)
      (q_scons (q_ifS (q_w (q_and (q_tcmp op_lt sr_lt (q_var 4) q_int) (q_and1 (q_frzT (q_tcmp (op_neD hr.units) sr_ne (q_var 3) (q_lst q_nil))))))
      (q_sone (q_ret (q_call G_law_went (hr.mono (by decide)) (passes_call (takes_of rfl rfl rfl rfl) fun _ _ _ _ h => h) (q_consV 1 (pv 1) (q_consV 2 (pv 2) (q_consV 3 (pv 3) q_nil))))))
      q_snil)
      (q_scons (q_ifS (q_tcmp op_lt sr_lt (q_var 4) q_int)
      (q_sone (q_retV 2 (pv 2)))
      q_snil)
      (q_scons (q_ifS (q_tcmp (op_eqD hr.units) sr_eq (q_var 4) q_int)
      (q_scons (q_set 5 sc_law_stepped.nd (q_call G_lane_renewed (hr.mono (by decide)) (passes_call (takes_of rfl rfl rfl rfl) fun _ _ _ _ h => h) (q_consV 1 (pv 1) (q_consV 2 (pv 2) q_nil))))
      (q_sone (q_ret (q_if (q_tcmp (op_eqD hr.units) sr_eq (q_slV 5 (pv 5) q_no (q_part q_int)) (q_slV 2 (pv 2) q_no (q_part q_int))) (q_var 5) q_non))))
      q_snil)
      (q_scons (q_forE (passes_of rfl) rfl T.f_enumerate (q_ofN (q_nlistV 3 (pv 3) T.f_list)) (qg_t [6, 7] rfl (pgs_cons (pg_name (i := 6) sc_law_stepped.nd rfl (by first | exact Or.inl rfl | exact Or.inr rfl)) (pgs_cons (pg_name (i := 7) sc_law_stepped.nd rfl (by first | exact Or.inl rfl | exact Or.inr rfl)) pgs_nil)))
      (q_sone (q_store 3 (pv 3) (q_var 6) (q_bin op_plus sr_plus (q_slV 7 (pv 7) q_no (q_part q_int)) (q_tup (q_cons (q_bin op_plus sr_plus (q_ixV 7 (pv 7) q_int) q_int) q_nil))))))
      (q_sone (q_ret (q_call G_lane_passed (hr.mono (by decide)) (passes_call (takes_of rfl rfl rfl rfl) fun _ _ _ _ h => h) (q_consV 1 (pv 1) (q_consV 2 (pv 2) q_nil)))))))))))) ?_
  · obtain ⟨_, _, _, _, _, _, rfl, _⟩ := h; rfl
  intro ss cs Ed Qd h
  obtain ⟨j, i, B, s, l, n, rfl, hij, hs, hl, h0, hb, hn, hi0, hp0, hB, h⟩ := h
  have hll := hl.len
  have hlim := hs.lim
  have up : ∀ ps, Wb n ps → Wb (n + 1) ps := fun ps z p hp => by have := z p hp; omega
  refine ⟨j, _, _, rfl, hp0, by omega, ⟨by decide, by decide⟩, fun r1 cs1 hr1 hc1 hp1 => ?_⟩
  have hi1 : cs1[i]? = some (pcs l.ps) := (hc1.2 i hij).trans hi0
  have hl1 : i < cs1.length := (List.getElem?_eq_some_iff.mp hi1).1
  refine ifD2 (fun q => ?_) fun q => ?_
  · exact ⟨j, i, _, s, l, rfl, hij, hs, hl, h0, hi1, hp1, by omega, fun l' cs' ho hc0 hw hlen hi' hp' => h l' cs' ho hc0 (up _ (hw n hn.1 hb)) (hlen.trans hc1.1) hi' (hp'.mono (by omega))⟩
  have e3 : disSl cs1.length cs1 (.c i) = .d (.list (pcs l.ps)) := by
    show (if i < cs1.length then (match cs1[i]? with | some ds => Sl.d (.list ds) | none => .no) else .c (i - cs1.length)) = _
    rw [if_pos hl1, hi1]
  refine ifD2 (fun q6 => ?_) fun q6 => ?_
  · show dTB (dOp dNe (dVar 3) (dLst dNil)) [disSl cs1.length cs1 (.c j), .d s.d, .d l.d, disSl cs1.length cs1 (.c i), .d (.int r1), .no, .no, .no] [] _ _
    rw [e3]
    cases e : l.ps with
    | nil =>
      refine ⟨le_line (show 0 ≤ 100000 by decide), rfl, rfl, ifNT rfl ?_⟩
      refine ifDT q6 ?_
      exact h l cs1 hl h0 (up _ hb) hc1.1 hi1 (hp1.mono (by omega))
    | cons p r =>
      have ly : SeqAt.shaped (.list (pcs (p :: r))) = true := by
        have z := pcs_lay (p :: r)
        show (PyData.canLayAll0 (pcs (p :: r)) && decide (PyData.depthAll (pcs (p :: r)) + 1 ≤ 64)) = true
        rw [z.c, decide_eq_true (show PyData.depthAll (pcs (p :: r)) + 1 ≤ 64 by have := z.d; omega)]; rfl
      refine ⟨le_line (show 0 ≤ 100000 by decide), ly, rfl, ifNF rfl ?_⟩
      refine ⟨i, s, l, p, r, rfl, hs, hl, h0, e, hi1, fun l' ho hc0 hps => ?_⟩
      refine h l' (cs1.set i (pcs r)) ho hc0 (fun z hz => ?_) (by rw [List.length_set]; exact hc1.1) (by rw [hps]; exact List.getElem?_set_self hl1) ((hp1.over (Ne.symm hij)).mono (by omega))
      rw [hps] at hz
      exact up _ hb z (by rw [e]; exact List.mem_cons_of_mem _ hz)
  refine ifDF q6 ?_
  refine ⟨rfl, rfl, if2 (fun q => ?_) fun q => ?_⟩
  · refine ⟨s, l, rfl, hs, hl, rfl, _, rfl, rfl, _, rfl, (two_lay l.cr l.ps).shaped (by decide), (two_lay l.cr l.ps).shaped (by decide), ifT (two_lay l.cr l.ps).eqv ?_⟩
    exact h (renewLn s l) cs1 (renewLn_ok hl) h0 (up _ hb) hc1.1 hi1 (hp1.mono (by omega))
  dsimp only [DN.push, dNext]
  refine d_mid (fun ρ' cs' => ∃ (x6 x7 : Sl), ρ' = [.c j, .d s.d, .d l.d, .c i, .d (.int r1), .no, x6, x7] ∧ cs' = cs1.set i (pcs (l.ps.map Pc.inc))) (fun D1 _ _ hN => ?_) ?_
  · refine ⟨_, hi1, ?_⟩
    refine ⟨fun t ρ cs2 => ∃ (x6 x7 : Sl), ρ = [.c j, .d s.d, .d l.d, .c i, .d (.int r1), .no, x6, x7] ∧ cs2 = cs1.set i (pcs ((l.ps.take t).map Pc.inc ++ l.ps.drop t)), ⟨_, _, rfl, ?_⟩, ?_, ?_⟩
    · show cs1 = cs1.set i (pcs l.ps)
      exact (set_same hi1).symm
    · rintro t ρ cs2 ht ⟨x6, x7, rfl, rfl⟩
      have ht' : t < l.ps.length := by rw [← pcs_len]; exact ht
      dsimp only
      rw [pcs_at ht']
      have hs2 : (cs1.set i (pcs ((l.ps.take t).map Pc.inc ++ l.ps.drop t)))[i]? = some (pcs ((l.ps.take t).map Pc.inc ++ l.ps.drop t)) := List.getElem?_set_self hl1
      have hlt : t < (pcs ((l.ps.take t).map Pc.inc ++ l.ps.drop t)).length := by
        rw [pcs_len, List.length_append, List.length_map, List.length_take, List.length_drop]; omega
      have hix : ixN (pcs ((l.ps.take t).map Pc.inc ++ l.ps.drop t)).length (t : Int) = some t := by
        unfold ixN
        rw [if_pos (by omega), if_pos (by omega), Int.toNat_natCast]
      refine ⟨_, rfl, rfl, _, rfl, rfl, _, _, rfl, rfl, le_line (show 1 ≤ 100000 by decide), le_line (show 4 ≤ 100000 by decide), _, t, hs2, hix, ?_⟩
      refine ⟨_, _, rfl, ?_⟩
      show (cs1.set i _).set i _ = _
      rw [List.set_set]
      congr 1
      show (pcs ((l.ps.take t).map Pc.inc ++ l.ps.drop t)).set t (Pc.d (l.ps[t]).inc) = pcs ((l.ps.take (t + 1)).map Pc.inc ++ l.ps.drop (t + 1))
      unfold pcs
      rw [← List.map_set]
      congr 1
      have hlen2 : ((l.ps.take t).map Pc.inc).length = t := by rw [List.length_map, List.length_take]; omega
      rw [List.set_append_right _ _ (by omega), hlen2, Nat.sub_self, List.drop_eq_getElem_cons ht', List.set_cons_zero, ← take_snoc Pc.inc ht', List.append_assoc]
      rfl
    · rintro ρ cs2 ⟨x6, x7, rfl, rfl⟩
      refine hN _ _ ⟨_, _, rfl, ?_⟩
      rw [pcs_len, List.take_length, List.drop_length, List.append_nil]
  rintro ρ cs2 ⟨x6, x7, rfl, rfl⟩
  refine ⟨s, l, rfl, hs, hl, ?_⟩
  have eo := older_inc hb hn.2
  refine h (passLn s l) (cs1.set i _) (passLn_ok hl) h0 (fun p hp => ?_) (by rw [List.length_set]; exact hc1.1) ?_ ((hp1.over (Ne.symm hij)).mono (by omega))
  · have hp' : p ∈ l.ps.map Pc.older := hp
    rw [eo] at hp'
    obtain ⟨q, hq, rfl⟩ := List.mem_map.mp hp'
    have := hb q hq
    show q.wt + 1 ≤ n + 1
    omega
  · show _ = some (pcs (l.ps.map Pc.older))
    rw [eo]
    exact List.getElem?_set_self hl1

/-! law -/
def f_law : FD := fLaw 63

theorem sc_law : FnScope ["script", "cells", "k", "pot", "stream", "lane", "kept", "turn"] ["script"] (defScope s_law) := ⟨rfl, rfl, rfl, by decide +kernel, rfl, by decide +kernel, by decide +kernel⟩
theorem ok_law (T : Txt mg) (G_law_folded : CalN P w K mg base 1 "_law_folded" ["script", "most"] f_law_folded) (G_law_pot : CalN P w K mg base 1 "_law_pot" ["script", "k"] f_law_pot) (G_law_stream : Cal P w K mg base 4 "_law_stream" ["pot"] f_law_stream) (G_empty_lane : Cal P w K mg base 7 "empty_lane" ["stream"] f_empty_lane) (G_law_stepped : Cal P w K mg base 11 "_law_stepped" ["pot", "stream", "lane", "kept"] f_law_stepped) (G_is_lane : Cal P w K mg base 7 "is_lane" ["stream", "thing"] f_is_lane) {a : Addr} {fd : FuncData} (F : FunD K "law" "law" (defArgs s_law) (defBody s_law) (defScope s_law) [] [] a fd) : FnOk P w K mg base (L2.CX P w) 12 a fd ["script"] (spD K f_law) := by
  refine fn_of F sc_law (fun ss cs Ed Q h => ?_) (fun cdv A outer s H E hr => (q_scons (q_set 1 sc_law.nd (q_ofN (q_ncall G_law_folded (hr.mono (by decide)) (passes_call (takes_of rfl rfl rfl rfl) fun _ _ _ _ h => h) (q_consV 0 (pv 0) (q_cons q_int q_nil)))))
      (q_scons (q_for (passes_of rfl) rfl (qi_r1 T.f_range (q_cons (q_cb (call_max2 rfl) sc_max2 T.f_max (by decide +kernel) (q_cons q_int (q_cons (q_lenV 1 (pv 1) T.f_len) q_nil))) q_nil)) (qg_1 2 (pg_name (i := 2) sc_law.nd rfl (by first | exact Or.inl rfl | exact Or.inr rfl)))
      (q_scons (q_new 3 sc_law.nd (q_ncall G_law_pot (hr.mono (by decide)) (passes_call (takes_of rfl rfl rfl rfl) fun _ _ _ _ h => h) (q_consV 1 (pv 1) (q_consV 2 (pv 2) q_nil))))
      (q_scons (q_set 4 sc_law.nd (q_call G_law_stream (hr.mono (by decide)) (passes_call (takes_of rfl rfl rfl rfl) fun _ _ _ _ h => h) (q_consV 3 (pv 3) q_nil)))
      (q_scons (q_set 5 sc_law.nd (q_call G_empty_lane (hr.mono (by decide)) (passes_call (takes_of rfl rfl rfl rfl) fun _ _ _ _ h => h) (q_consV 4 (pv 4) q_nil)))
      (q_scons (q_new 6 sc_law.nd (q_nlst q_nil))
      (q_sone (q_for (passes_of rfl) rfl (qi_r1 T.f_range (q_cons q_int q_nil)) (qg_1 7 (pg_name (i := 7) sc_law.nd rfl (by first | exact Or.inl rfl | exact Or.inr rfl)))
      (q_scons (q_set 5 sc_law.nd (q_call G_law_stepped (hr.mono (by decide)) (passes_call (takes_of rfl rfl rfl rfl) fun _ _ _ _ h => h) (q_consV 3 (pv 3) (q_consV 4 (pv 4) (q_consV 5 (pv 5) (q_consV 6 (pv 6) q_nil))))))
      (q_sone (q_ifS (q_w (q_or (q_tcmp op_isN sr_isN (q_var 5) q_non) (q_or (q_not (q_tv (q_call G_is_lane (hr.mono (by decide)) (passes_call (takes_of rfl rfl rfl rfl) fun _ _ _ _ h => h) (q_consV 4 (pv 4) (q_consV 5 (pv 5) q_nil))))) (q_or (q_tcmp (op_neD hr.units) sr_ne (q_ixV 5 (pv 5) q_int) q_int) (q_or1 (q_tcmp (op_neD hr.units) sr_ne (q_ixV 5 (pv 5) q_int) (q_tupleV 6 (pv 6) T.f_tuple)))))))
      (q_sone (q_ret q_bl))
      q_snil))))))))))
      (q_sone (q_ret q_bl))))) ?_
  · obtain ⟨_, _, rfl, _⟩ := h; rfl
  intro ss cs Ed Qd h
  obtain ⟨rfl, ns, rfl, hl, h⟩ := h
  refine ⟨ns, 6, rfl, ⟨by decide, by decide⟩, hl, fun ms hms => ?_⟩
  have hml : ((ms.map PyData.int).length : Int) ≤ 6 := by rw [List.length_map]; exact hms
  obtain ⟨k1, k2⟩ := draws_ok hml
  refine ⟨_, rfl, show -(2 ^ 62) ≤ draws _ by omega, show draws _ < 2 ^ 62 by omega, ?_⟩
  refine ⟨fun t ρ cs2 => ∃ (x2 x3 x4 x5 x6 x7 : Sl), ρ = [.f (ns.map .int), .d (.list (ms.map .int)), x2, x3, x4, x5, x6, x7] ∧ cs2 = [], ⟨_, _, _, _, _, _, rfl, rfl⟩, ?_, ?_⟩
  · rintro t ρ cs2 ht ⟨x2, x3, x4, x5, x6, x7, rfl, rfl⟩
    have ht' : t < (draws (ms.map PyData.int).length).toNat := ht
    refine ⟨_, rfl, .d (.list (ms.map .int)), ms, t, rfl, nofun, rfl, ⟨by omega, by omega⟩, fun ds hp => ?_⟩
    refine ⟨0, 0, rfl, ⟨ds, rfl, hp⟩, by decide, fun s cs1 hs hc1 hp1 => ?_⟩
    obtain ⟨d1, rfl⟩ := hc1.one
    have hlim := hs.lim
    have hw := hs.w
    have hl0 : Ln.Ok s ⟨0, [], firstM s.R⟩ := ⟨⟨Int.le_refl 0, by show (0 : Int) ≤ 9 * s.w + 8; omega⟩, fun _ => rfl, by show ((0 : Nat) : Int) ≤ s.lim; omega, nofun, List.Pairwise.nil, firstM_ok hs.R⟩
    refine ⟨s, rfl, hs, ?_⟩
    dsimp only [DN.push, dNext]
    refine d_midk 1 (fun ρ' cs' => ∃ (z7 : Sl), ρ' = [.f (ns.map .int), .d (.list (ms.map .int)), .d (.int t), .c 1, .d s.d, .d (Ln.d ⟨0, [], firstM s.R⟩), .c 0, z7] ∧ cs' = [[], d1]) (fun D1 _ _ hN => ⟨Nat.zero_le _, hN _ _ ⟨_, rfl, rfl⟩⟩) ?_
    rintro ρ cs2 ⟨z7, rfl, rfl⟩
    refine ⟨by decide, by decide, ?_⟩
    refine ⟨fun u ρ cs3 => ∃ (l : Ln) (d : List PyData) (z7 : Sl), ρ = [.f (ns.map .int), .d (.list (ms.map .int)), .d (.int t), .c 1, .d s.d, .d l.d, .c 0, z7] ∧ l.Ok s ∧ l.cr = 0 ∧ Wb u l.ps ∧ cs3 = [pcs l.ps, d] ∧ PotAt cs3 1 (100 + 5 * u), ⟨⟨0, [], firstM s.R⟩, _, _, rfl, hl0, rfl, nofun, rfl, (PotAt.up hp1).mono (by omega)⟩, ?_, ?_⟩
    · rintro u ρ cs3 hu ⟨l, d, z7, rfl, hlk, h0, hb, rfl, hp3⟩
      have hu' : u < 40 := hu
      refine ⟨_, rfl, 1, 0, _, s, l, u, rfl, by decide, hs, hlk, h0, hb, ⟨by omega, by omega⟩, rfl, hp3, by omega, fun l' cs5 ho hc0 hb' hlen hi5 hp5 => ?_⟩
      obtain ⟨d5, rfl⟩ := Law.two hlen hi5
      refine ⟨s, l', rfl, hs, ho, ?_⟩
      refine ⟨rfl, _, _, rfl, rfl, rfl, rfl, ifNT ((eqv_int _ _).trans (dT hc0)) ?_⟩
      refine ⟨rfl, _, _, rfl, rfl, _, rfl, (ps_lay l'.ps).shaped (by decide), (ps_lay l'.ps).shaped (by decide), ifNT (ps_lay l'.ps).eqv ?_⟩
      exact ⟨l', _, _, rfl, ho, hc0, fun p hp => by have := hb' p hp; rw [Int.natCast_add]; exact this, rfl, hp5.mono (by omega)⟩
    · rintro ρ cs3 ⟨l, d, z7, rfl, _, _, _, rfl, _⟩
      exact ⟨_, _, _, _, _, _, rfl, rfl⟩
  · rintro ρ cs2 ⟨x2, x3, x4, x5, x6, x7, rfl, rfl⟩
    exact h

end
end Law

namespace Law
open PySem PySem.Spec PyProof.Rows L2 Kp
/-! ### the head -/
def d_is_whole : He.DefD := ⟨("is_whole", none), "is_whole", "is_whole", defArgs s_is_whole, defBody s_is_whole, defScope s_is_whole, [], []⟩
def d_pass_late : He.DefD := ⟨("pass_late", none), "pass_late", "pass_late", defArgs s_pass_late, defBody s_pass_late, defScope s_pass_late, [], []⟩
def d_renew_share : He.DefD := ⟨("renew_share", none), "renew_share", "renew_share", defArgs s_renew_share, defBody s_renew_share, defScope s_renew_share, [], []⟩
def d_come_share : He.DefD := ⟨("come_share", none), "come_share", "come_share", defArgs s_come_share, defBody s_come_share, defScope s_come_share, [], []⟩
def d_pass_share : He.DefD := ⟨("pass_share", none), "pass_share", "pass_share", defArgs s_pass_share, defBody s_pass_share, defScope s_pass_share, [], []⟩
def d_turn_credit : He.DefD := ⟨("turn_credit", none), "turn_credit", "turn_credit", defArgs s_turn_credit, defBody s_turn_credit, defScope s_turn_credit, [], []⟩
def d_law_pot : He.DefD := ⟨("_law_pot", none), "_law_pot", "_law_pot", defArgs s_law_pot, defBody s_law_pot, defScope s_law_pot, [], []⟩
def d_law_take : He.DefD := ⟨("_law_take", none), "_law_take", "_law_take", defArgs s_law_take, defBody s_law_take, defScope s_law_take, [], []⟩
def d_law_folded : He.DefD := ⟨("_law_folded", none), "_law_folded", "_law_folded", defArgs s_law_folded, defBody s_law_folded, defScope s_law_folded, [], []⟩
def d_is_within : He.DefD := ⟨("is_within", none), "is_within", "is_within", defArgs s_is_within, defBody s_is_within, defScope s_is_within, [], []⟩
def d_root : He.DefD := ⟨("root", none), "root", "root", defArgs s_root, defBody s_root, defScope s_root, [], []⟩
def d_come_by : He.DefD := ⟨("come_by", none), "come_by", "come_by", defArgs s_come_by, defBody s_come_by, defScope s_come_by, [], []⟩
def d_renew_by : He.DefD := ⟨("renew_by", none), "renew_by", "renew_by", defArgs s_renew_by, defBody s_renew_by, defScope s_renew_by, [], []⟩
def d_pass_by : He.DefD := ⟨("pass_by", none), "pass_by", "pass_by", defArgs s_pass_by, defBody s_pass_by, defScope s_pass_by, [], []⟩
def d_law_late_rule : He.DefD := ⟨("_law_late_rule", none), "_law_late_rule", "_law_late_rule", defArgs s_law_late_rule, defBody s_law_late_rule, defScope s_law_late_rule, [], []⟩
def d_law_share_rule : He.DefD := ⟨("_law_share_rule", none), "_law_share_rule", "_law_share_rule", defArgs s_law_share_rule, defBody s_law_share_rule, defScope s_law_share_rule, [], []⟩
def d_check_number : He.DefD := ⟨("check_number", none), "check_number", "check_number", defArgs s_check_number, defBody s_check_number, defScope s_check_number, [], []⟩
def d_is_late : He.DefD := ⟨("is_late", none), "is_late", "is_late", defArgs s_is_late, defBody s_is_late, defScope s_is_late, [], []⟩
def d_fits_late : He.DefD := ⟨("fits_late", none), "fits_late", "fits_late", defArgs s_fits_late, defBody s_fits_late, defScope s_fits_late, [], []⟩
def d_is_share : He.DefD := ⟨("is_share", none), "is_share", "is_share", defArgs s_is_share, defBody s_is_share, defScope s_is_share, [], []⟩
def d_fits_share : He.DefD := ⟨("fits_share", none), "fits_share", "fits_share", defArgs s_fits_share, defBody s_fits_share, defScope s_fits_share, [], []⟩
def d_come_to : He.DefD := ⟨("come_to", none), "come_to", "come_to", defArgs s_come_to, defBody s_come_to, defScope s_come_to, [], []⟩
def d_renew_lane : He.DefD := ⟨("renew_lane", none), "renew_lane", "renew_lane", defArgs s_renew_lane, defBody s_renew_lane, defScope s_renew_lane, [], []⟩
def d_pass_lane : He.DefD := ⟨("pass_lane", none), "pass_lane", "pass_lane", defArgs s_pass_lane, defBody s_pass_lane, defScope s_pass_lane, [], []⟩
def d_fits_piece : He.DefD := ⟨("_fits_piece", none), "_fits_piece", "_fits_piece", defArgs s_fits_piece, defBody s_fits_piece, defScope s_fits_piece, [], []⟩
def d_law_rule : He.DefD := ⟨("_law_rule", none), "_law_rule", "_law_rule", defArgs s_law_rule, defBody s_law_rule, defScope s_law_rule, [], []⟩
def d_gap : He.DefD := ⟨("gap", none), "gap", "gap", defArgs s_gap, defBody s_gap, defScope s_gap, [], []⟩
def d_check_late : He.DefD := ⟨("_check_late", none), "_check_late", "_check_late", defArgs s_check_late, defBody s_check_late, defScope s_check_late, [], []⟩
def d_check_share : He.DefD := ⟨("_check_share", none), "_check_share", "_check_share", defArgs s_check_share, defBody s_check_share, defScope s_check_share, [], []⟩
def d_is_rule : He.DefD := ⟨("is_rule", none), "is_rule", "is_rule", defArgs s_is_rule, defBody s_is_rule, defScope s_is_rule, [], []⟩
def d_fits_memory : He.DefD := ⟨("fits_memory", none), "fits_memory", "fits_memory", defArgs s_fits_memory, defBody s_fits_memory, defScope s_fits_memory, [], []⟩
def d_law_stream : He.DefD := ⟨("_law_stream", none), "_law_stream", "_law_stream", defArgs s_law_stream, defBody s_law_stream, defScope s_law_stream, [], []⟩
def d_late_first : He.DefD := ⟨("late_first", none), "late_first", "late_first", defArgs s_late_first, defBody s_late_first, defScope s_late_first, [], []⟩
def d_look_late : He.DefD := ⟨("look_late", none), "look_late", "look_late", defArgs s_look_late, defBody s_look_late, defScope s_look_late, [], []⟩
def d_share_first : He.DefD := ⟨("share_first", none), "share_first", "share_first", defArgs s_share_first, defBody s_share_first, defScope s_share_first, [], []⟩
def d_check_rule : He.DefD := ⟨("check_rule", none), "check_rule", "check_rule", defArgs s_check_rule, defBody s_check_rule, defScope s_check_rule, [], []⟩
def d_is_stream : He.DefD := ⟨("is_stream", none), "is_stream", "is_stream", defArgs s_is_stream, defBody s_is_stream, defScope s_is_stream, [], []⟩
def d_fits_lane : He.DefD := ⟨("fits_lane", none), "fits_lane", "fits_lane", defArgs s_fits_lane, defBody s_fits_lane, defScope s_fits_lane, [], []⟩
def d_first_memory : He.DefD := ⟨("first_memory", none), "first_memory", "first_memory", defArgs s_first_memory, defBody s_first_memory, defScope s_first_memory, [], []⟩
def d_look_at : He.DefD := ⟨("look_at", none), "look_at", "look_at", defArgs s_look_at, defBody s_look_at, defScope s_look_at, [], []⟩
def d_check_stream : He.DefD := ⟨("_check_stream", none), "_check_stream", "_check_stream", defArgs s_check_stream, defBody s_check_stream, defScope s_check_stream, [], []⟩
def d_is_lane : He.DefD := ⟨("is_lane", none), "is_lane", "is_lane", defArgs s_is_lane, defBody s_is_lane, defScope s_is_lane, [], []⟩
def d_empty_lane : He.DefD := ⟨("empty_lane", none), "empty_lane", "empty_lane", defArgs s_empty_lane, defBody s_empty_lane, defScope s_empty_lane, [], []⟩
def d_go_out : He.DefD := ⟨("go_out", none), "go_out", "go_out", defArgs s_go_out, defBody s_go_out, defScope s_go_out, [], []⟩
def d_check_lane : He.DefD := ⟨("_check_lane", none), "_check_lane", "_check_lane", defArgs s_check_lane, defBody s_check_lane, defScope s_check_lane, [], []⟩
def d_put_in : He.DefD := ⟨("put_in", none), "put_in", "put_in", defArgs s_put_in, defBody s_put_in, defScope s_put_in, [], [("can", .bl true)]⟩
def d_head_out : He.DefD := ⟨("head_out", none), "head_out", "head_out", defArgs s_head_out, defBody s_head_out, defScope s_head_out, [], []⟩
def d_lane_renewed : He.DefD := ⟨("lane_renewed", none), "lane_renewed", "lane_renewed", defArgs s_lane_renewed, defBody s_lane_renewed, defScope s_lane_renewed, [], []⟩
def d_lane_passed : He.DefD := ⟨("lane_passed", none), "lane_passed", "lane_passed", defArgs s_lane_passed, defBody s_lane_passed, defScope s_lane_passed, [], []⟩
def d_law_came : He.DefD := ⟨("_law_came", none), "_law_came", "_law_came", defArgs s_law_came, defBody s_law_came, defScope s_law_came, [], []⟩
def d_law_went : He.DefD := ⟨("_law_went", none), "_law_went", "_law_went", defArgs s_law_went, defBody s_law_went, defScope s_law_went, [], []⟩
def d_law_stepped : He.DefD := ⟨("_law_stepped", none), "_law_stepped", "_law_stepped", defArgs s_law_stepped, defBody s_law_stepped, defScope s_law_stepped, [], []⟩
def d_law : He.DefD := ⟨("law", none), "law", "law", defArgs s_law, defBody s_law, defScope s_law, [], []⟩
def fn0 : List He.DefD := [d_is_whole, d_pass_late, d_renew_share, d_come_share, d_pass_share, d_turn_credit, d_law_pot, d_law_take, d_law_folded, d_is_within, d_root, d_come_by, d_renew_by, d_pass_by, d_law_late_rule, d_law_share_rule, d_check_number, d_is_late, d_fits_late, d_is_share]
def fn1 : List He.DefD := [d_fits_share, d_come_to, d_renew_lane, d_pass_lane, d_fits_piece, d_law_rule, d_gap, d_check_late, d_check_share, d_is_rule, d_fits_memory, d_law_stream, d_late_first, d_look_late, d_share_first, d_check_rule, d_is_stream, d_fits_lane, d_first_memory, d_look_at]
def fn2 : List He.DefD := [d_check_stream, d_is_lane, d_empty_lane, d_go_out, d_check_lane, d_put_in, d_head_out, d_lane_renewed, d_lane_passed, d_law_came, d_law_went, d_law_stepped, d_law]
def fn : List He.DefD := fn0 ++ fn1 ++ fn2
def fa0 : List He.Fa := [.glo "is_whole", .glo "pass_late", .glo "renew_share", .glo "come_share", .glo "pass_share", .glo "turn_credit", .glo "_law_pot", .glo "_law_take", .glo "_law_folded", .glo "is_within", .glo "root", .glo "come_by", .glo "renew_by", .glo "pass_by", .glo "_law_late_rule", .glo "_law_share_rule", .glo "check_number", .glo "is_late", .glo "fits_late", .glo "is_share"]
def fa1 : List He.Fa := [.glo "fits_share", .glo "come_to", .glo "renew_lane", .glo "pass_lane", .glo "_fits_piece", .glo "_law_rule", .glo "gap", .glo "_check_late", .glo "_check_share", .glo "is_rule", .glo "fits_memory", .glo "_law_stream", .glo "late_first", .glo "look_late", .glo "share_first", .glo "check_rule", .glo "is_stream", .glo "fits_lane", .glo "first_memory", .glo "look_at"]
def fa2 : List He.Fa := [.glo "_check_stream", .glo "is_lane", .glo "empty_lane", .glo "go_out", .glo "_check_lane", .glo "put_in", .glo "head_out", .glo "lane_renewed", .glo "lane_passed", .glo "_law_came", .glo "_law_went", .glo "_law_stepped", .glo "law", .free "abs", .free "all", .free "bool", .free "enumerate", .free "int", .free "isinstance", .free "len"]
def fa3 : List He.Fa := [.free "list", .free "max", .free "min", .free "range", .free "sorted", .free "tuple", .int "MOST_FACTOR" 999, .int "MOST_KEPT" 8, .int "MOST_LIMIT" 99, .int "MOST_MARK_late" 99, .int "MOST_MARK_share" 99, .int "MOST_OLD" 99, .int "MOST_PERIOD" 99, .int "MOST_SIZE" 9, .int "MOST_SPAN_late" 99, .int "MOST_SPAN_roots" 99, .int "MOST_WAIT" 1000000, .int "MOST_WEIGHT" 9, .int "WHOLE_SHARE" 1000]
def fa : List He.Fa := fa0 ++ fa1 ++ fa2 ++ fa3
def loose0 : List Str := ["LineError", "NoNumber", "NoRule", "NoStream", "NoLane", "MOST_WAIT", "is_whole", "is_within", "check_number", "MOST_SIZE", "MOST_SPAN_roots", "root", "gap", "MOST_MARK_late", "MOST_SPAN_late", "is_late", "late_first", "fits_late", "look_late", "pass_late"]
def loose1 : List Str := ["_check_late", "MOST_MARK_share", "MOST_PERIOD", "MOST_FACTOR", "MOST_OLD", "WHOLE_SHARE", "is_share", "share_first", "fits_share", "renew_share", "come_share", "pass_share", "_check_share", "is_rule", "first_memory", "check_rule", "fits_memory", "look_at", "come_by", "renew_by"]
def loose2 : List Str := ["pass_by", "MOST_WEIGHT", "MOST_LIMIT", "MOST_KEPT", "is_stream", "is_lane", "empty_lane", "put_in", "head_out", "lane_renewed", "lane_passed", "turn_credit", "fits_lane", "come_to", "go_out", "renew_lane", "pass_lane", "_fits_piece", "_check_stream", "_check_lane"]
def loose3 : List Str := ["_law_pot", "_law_take", "_law_folded", "_law_late_rule", "_law_share_rule", "_law_rule", "_law_stream", "_law_came", "_law_went", "_law_stepped"]
def loose : List Str := loose0 ++ loose1 ++ loose2 ++ loose3
def bs : List (Str × String) := [("isqrt", "math.isqrt")]
abbrev R : PySem.W.OpenRow := PySem.W.OpenLaw.row PySem.Challenge.rw_waitmark_k27_whole_lanes_keep_each
abbrev hk : PySem.W.Hook := Kp.hookB 4 fa fn bs
def ob (s : PySem.W.SharedT) : Kp.AlB := Kp.obsBG 4 fa fn bs (HandSHeadRun.getT s)
theorem ob_eq (s : PySem.W.SharedT) : ob s = hk.obs s.abs := Kp.obsBG_eq (HandSHeadRun.getT_eq s)
theorem run (w : World) : HandSHeadRun.RunEqI R (PySem.W.view R.prog [0, 79]) hk ob 40000 loose w := by
  unfold HandSHeadRun.RunEqI
  kernel_rfl
theorem facts {P : Program} {w : World} {K : Frag} {h : Heap} {mg : Str → Option Value} {f : Addr} (X : K.In h) (G : h.Ns mainGlobals mg) (hfa : mg ("law" : Str) = some (.ref f)) (c : Kp.saysB fa fn bs K) :
    ∃ fd : FuncData, (∀ (s : Shared) (v : Value), BindsTo s fd ⟨[v], []⟩ [("script", v)]) ∧ ∀ base : Heap, FnOk P w K mg base (L2.CX P w) 12 f fd ["script"] (spD K (fLaw 63)) := by
  obtain ⟨fd_is_whole, F_is_whole⟩ := c.1.def_ 0 (d := d_is_whole) rfl
  have b_is_whole : Binds K fd_is_whole ["thing"] [] := FunD.bindsN F_is_whole fun _ _ _ _ _ _ us hl => match us, hl with | [_], _ => rfl
  obtain ⟨fd_pass_late, F_pass_late⟩ := c.1.def_ 1 (d := d_pass_late) rfl
  have b_pass_late : Binds K fd_pass_late ["rule", "memory"] [] := FunD.bindsN F_pass_late fun _ _ _ _ _ _ us hl => match us, hl with | [_, _], _ => rfl
  obtain ⟨fd_renew_share, F_renew_share⟩ := c.1.def_ 2 (d := d_renew_share) rfl
  have b_renew_share : Binds K fd_renew_share ["rule", "memory", "wait"] [] := FunD.bindsN F_renew_share fun _ _ _ _ _ _ us hl => match us, hl with | [_, _, _], _ => rfl
  obtain ⟨fd_come_share, F_come_share⟩ := c.1.def_ 3 (d := d_come_share) rfl
  have b_come_share : Binds K fd_come_share ["memory"] [] := FunD.bindsN F_come_share fun _ _ _ _ _ _ us hl => match us, hl with | [_], _ => rfl
  obtain ⟨fd_pass_share, F_pass_share⟩ := c.1.def_ 4 (d := d_pass_share) rfl
  have b_pass_share : Binds K fd_pass_share ["rule", "memory"] [] := FunD.bindsN F_pass_share fun _ _ _ _ _ _ us hl => match us, hl with | [_, _], _ => rfl
  obtain ⟨fd_turn_credit, F_turn_credit⟩ := c.1.def_ 5 (d := d_turn_credit) rfl
  have b_turn_credit : Binds K fd_turn_credit ["stream"] [] := FunD.bindsN F_turn_credit fun _ _ _ _ _ _ us hl => match us, hl with | [_], _ => rfl
  obtain ⟨fd_law_pot, F_law_pot⟩ := c.1.def_ 6 (d := d_law_pot) rfl
  have b_law_pot : Binds K fd_law_pot ["script", "k"] [] := FunD.bindsN F_law_pot fun _ _ _ _ _ _ us hl => match us, hl with | [_, _], _ => rfl
  obtain ⟨fd_law_take, F_law_take⟩ := c.1.def_ 7 (d := d_law_take) rfl
  have b_law_take : Binds K fd_law_take ["pot", "many"] [] := FunD.bindsN F_law_take fun _ _ _ _ _ _ us hl => match us, hl with | [_, _], _ => rfl
  obtain ⟨fd_law_folded, F_law_folded⟩ := c.1.def_ 8 (d := d_law_folded) rfl
  have b_law_folded : Binds K fd_law_folded ["script", "most"] [] := FunD.bindsN F_law_folded fun _ _ _ _ _ _ us hl => match us, hl with | [_, _], _ => rfl
  obtain ⟨fd_is_within, F_is_within⟩ := c.1.def_ 9 (d := d_is_within) rfl
  have b_is_within : Binds K fd_is_within ["thing", "low", "high"] [] := FunD.bindsN F_is_within fun _ _ _ _ _ _ us hl => match us, hl with | [_, _, _], _ => rfl
  obtain ⟨fd_root, F_root⟩ := c.1.def_ 10 (d := d_root) rfl
  have b_root : Binds K fd_root ["number"] [] := FunD.bindsN F_root fun _ _ _ _ _ _ us hl => match us, hl with | [_], _ => rfl
  obtain ⟨fd_come_by, F_come_by⟩ := c.1.def_ 11 (d := d_come_by) rfl
  have b_come_by : Binds K fd_come_by ["rule", "memory"] [] := FunD.bindsN F_come_by fun _ _ _ _ _ _ us hl => match us, hl with | [_, _], _ => rfl
  obtain ⟨fd_renew_by, F_renew_by⟩ := c.1.def_ 12 (d := d_renew_by) rfl
  have b_renew_by : Binds K fd_renew_by ["rule", "memory", "wait"] [] := FunD.bindsN F_renew_by fun _ _ _ _ _ _ us hl => match us, hl with | [_, _, _], _ => rfl
  obtain ⟨fd_pass_by, F_pass_by⟩ := c.1.def_ 13 (d := d_pass_by) rfl
  have b_pass_by : Binds K fd_pass_by ["rule", "memory"] [] := FunD.bindsN F_pass_by fun _ _ _ _ _ _ us hl => match us, hl with | [_, _], _ => rfl
  obtain ⟨fd_law_late_rule, F_law_late_rule⟩ := c.1.def_ 14 (d := d_law_late_rule) rfl
  have b_law_late_rule : Binds K fd_law_late_rule ["pot"] [] := FunD.bindsN F_law_late_rule fun _ _ _ _ _ _ us hl => match us, hl with | [_], _ => rfl
  obtain ⟨fd_law_share_rule, F_law_share_rule⟩ := c.1.def_ 15 (d := d_law_share_rule) rfl
  have b_law_share_rule : Binds K fd_law_share_rule ["pot"] [] := FunD.bindsN F_law_share_rule fun _ _ _ _ _ _ us hl => match us, hl with | [_], _ => rfl
  obtain ⟨fd_check_number, F_check_number⟩ := c.1.def_ 16 (d := d_check_number) rfl
  have b_check_number : Binds K fd_check_number ["thing", "low", "high"] [] := FunD.bindsN F_check_number fun _ _ _ _ _ _ us hl => match us, hl with | [_, _, _], _ => rfl
  obtain ⟨fd_is_late, F_is_late⟩ := c.1.def_ 17 (d := d_is_late) rfl
  have b_is_late : Binds K fd_is_late ["thing"] [] := FunD.bindsN F_is_late fun _ _ _ _ _ _ us hl => match us, hl with | [_], _ => rfl
  obtain ⟨fd_fits_late, F_fits_late⟩ := c.1.def_ 18 (d := d_fits_late) rfl
  have b_fits_late : Binds K fd_fits_late ["rule", "thing"] [] := FunD.bindsN F_fits_late fun _ _ _ _ _ _ us hl => match us, hl with | [_, _], _ => rfl
  obtain ⟨fd_is_share, F_is_share⟩ := c.1.def_ 19 (d := d_is_share) rfl
  have b_is_share : Binds K fd_is_share ["thing"] [] := FunD.bindsN F_is_share fun _ _ _ _ _ _ us hl => match us, hl with | [_], _ => rfl
  obtain ⟨fd_fits_share, F_fits_share⟩ := c.1.def_ 20 (d := d_fits_share) rfl
  have b_fits_share : Binds K fd_fits_share ["rule", "thing"] [] := FunD.bindsN F_fits_share fun _ _ _ _ _ _ us hl => match us, hl with | [_, _], _ => rfl
  obtain ⟨fd_come_to, F_come_to⟩ := c.1.def_ 21 (d := d_come_to) rfl
  have b_come_to : Binds K fd_come_to ["stream", "lane", "size", "can"] [] := FunD.bindsN F_come_to fun _ _ _ _ _ _ us hl => match us, hl with | [_, _, _, _], _ => rfl
  obtain ⟨fd_renew_lane, F_renew_lane⟩ := c.1.def_ 22 (d := d_renew_lane) rfl
  have b_renew_lane : Binds K fd_renew_lane ["stream", "lane"] [] := FunD.bindsN F_renew_lane fun _ _ _ _ _ _ us hl => match us, hl with | [_, _], _ => rfl
  obtain ⟨fd_pass_lane, F_pass_lane⟩ := c.1.def_ 23 (d := d_pass_lane) rfl
  have b_pass_lane : Binds K fd_pass_lane ["stream", "lane"] [] := FunD.bindsN F_pass_lane fun _ _ _ _ _ _ us hl => match us, hl with | [_, _], _ => rfl
  obtain ⟨fd_fits_piece, F_fits_piece⟩ := c.1.def_ 24 (d := d_fits_piece) rfl
  have b_fits_piece : Binds K fd_fits_piece ["thing"] [] := FunD.bindsN F_fits_piece fun _ _ _ _ _ _ us hl => match us, hl with | [_], _ => rfl
  obtain ⟨fd_law_rule, F_law_rule⟩ := c.1.def_ 25 (d := d_law_rule) rfl
  have b_law_rule : Binds K fd_law_rule ["pot"] [] := FunD.bindsN F_law_rule fun _ _ _ _ _ _ us hl => match us, hl with | [_], _ => rfl
  obtain ⟨fd_gap, F_gap⟩ := c.1.def_ 26 (d := d_gap) rfl
  have b_gap : Binds K fd_gap ["span", "count"] [] := FunD.bindsN F_gap fun _ _ _ _ _ _ us hl => match us, hl with | [_, _], _ => rfl
  obtain ⟨fd_check_late, F_check_late⟩ := c.1.def_ 27 (d := d_check_late) rfl
  have b_check_late : Binds K fd_check_late ["rule"] [] := FunD.bindsN F_check_late fun _ _ _ _ _ _ us hl => match us, hl with | [_], _ => rfl
  obtain ⟨fd_check_share, F_check_share⟩ := c.1.def_ 28 (d := d_check_share) rfl
  have b_check_share : Binds K fd_check_share ["rule"] [] := FunD.bindsN F_check_share fun _ _ _ _ _ _ us hl => match us, hl with | [_], _ => rfl
  obtain ⟨fd_is_rule, F_is_rule⟩ := c.1.def_ 29 (d := d_is_rule) rfl
  have b_is_rule : Binds K fd_is_rule ["thing"] [] := FunD.bindsN F_is_rule fun _ _ _ _ _ _ us hl => match us, hl with | [_], _ => rfl
  obtain ⟨fd_fits_memory, F_fits_memory⟩ := c.1.def_ 30 (d := d_fits_memory) rfl
  have b_fits_memory : Binds K fd_fits_memory ["rule", "thing"] [] := FunD.bindsN F_fits_memory fun _ _ _ _ _ _ us hl => match us, hl with | [_, _], _ => rfl
  obtain ⟨fd_law_stream, F_law_stream⟩ := c.1.def_ 31 (d := d_law_stream) rfl
  have b_law_stream : Binds K fd_law_stream ["pot"] [] := FunD.bindsN F_law_stream fun _ _ _ _ _ _ us hl => match us, hl with | [_], _ => rfl
  obtain ⟨fd_late_first, F_late_first⟩ := c.1.def_ 32 (d := d_late_first) rfl
  have b_late_first : Binds K fd_late_first ["rule"] [] := FunD.bindsN F_late_first fun _ _ _ _ _ _ us hl => match us, hl with | [_], _ => rfl
  obtain ⟨fd_look_late, F_look_late⟩ := c.1.def_ 33 (d := d_look_late) rfl
  have b_look_late : Binds K fd_look_late ["rule", "memory", "wait", "alone"] [] := FunD.bindsN F_look_late fun _ _ _ _ _ _ us hl => match us, hl with | [_, _, _, _], _ => rfl
  obtain ⟨fd_share_first, F_share_first⟩ := c.1.def_ 34 (d := d_share_first) rfl
  have b_share_first : Binds K fd_share_first ["rule"] [] := FunD.bindsN F_share_first fun _ _ _ _ _ _ us hl => match us, hl with | [_], _ => rfl
  obtain ⟨fd_check_rule, F_check_rule⟩ := c.1.def_ 35 (d := d_check_rule) rfl
  have b_check_rule : Binds K fd_check_rule ["rule"] [] := FunD.bindsN F_check_rule fun _ _ _ _ _ _ us hl => match us, hl with | [_], _ => rfl
  obtain ⟨fd_is_stream, F_is_stream⟩ := c.1.def_ 36 (d := d_is_stream) rfl
  have b_is_stream : Binds K fd_is_stream ["thing"] [] := FunD.bindsN F_is_stream fun _ _ _ _ _ _ us hl => match us, hl with | [_], _ => rfl
  obtain ⟨fd_fits_lane, F_fits_lane⟩ := c.1.def_ 37 (d := d_fits_lane) rfl
  have b_fits_lane : Binds K fd_fits_lane ["stream", "thing"] [] := FunD.bindsN F_fits_lane fun _ _ _ _ _ _ us hl => match us, hl with | [_, _], _ => rfl
  obtain ⟨fd_first_memory, F_first_memory⟩ := c.1.def_ 38 (d := d_first_memory) rfl
  have b_first_memory : Binds K fd_first_memory ["rule"] [] := FunD.bindsN F_first_memory fun _ _ _ _ _ _ us hl => match us, hl with | [_], _ => rfl
  obtain ⟨fd_look_at, F_look_at⟩ := c.1.def_ 39 (d := d_look_at) rfl
  have b_look_at : Binds K fd_look_at ["rule", "memory", "wait", "alone"] [] := FunD.bindsN F_look_at fun _ _ _ _ _ _ us hl => match us, hl with | [_, _, _, _], _ => rfl
  obtain ⟨fd_check_stream, F_check_stream⟩ := c.1.def_ 40 (d := d_check_stream) rfl
  have b_check_stream : Binds K fd_check_stream ["stream"] [] := FunD.bindsN F_check_stream fun _ _ _ _ _ _ us hl => match us, hl with | [_], _ => rfl
  obtain ⟨fd_is_lane, F_is_lane⟩ := c.1.def_ 41 (d := d_is_lane) rfl
  have b_is_lane : Binds K fd_is_lane ["stream", "thing"] [] := FunD.bindsN F_is_lane fun _ _ _ _ _ _ us hl => match us, hl with | [_, _], _ => rfl
  obtain ⟨fd_empty_lane, F_empty_lane⟩ := c.1.def_ 42 (d := d_empty_lane) rfl
  have b_empty_lane : Binds K fd_empty_lane ["stream"] [] := FunD.bindsN F_empty_lane fun _ _ _ _ _ _ us hl => match us, hl with | [_], _ => rfl
  obtain ⟨fd_go_out, F_go_out⟩ := c.1.def_ 43 (d := d_go_out) rfl
  have b_go_out : Binds K fd_go_out ["stream", "lane"] [] := FunD.bindsN F_go_out fun _ _ _ _ _ _ us hl => match us, hl with | [_, _], _ => rfl
  obtain ⟨fd_check_lane, F_check_lane⟩ := c.1.def_ 44 (d := d_check_lane) rfl
  have b_check_lane : Binds K fd_check_lane ["stream", "lane"] [] := FunD.bindsN F_check_lane fun _ _ _ _ _ _ us hl => match us, hl with | [_, _], _ => rfl
  obtain ⟨fd_put_in, F_put_in⟩ := c.1.def_ 45 (d := d_put_in) rfl
  obtain ⟨fd_head_out, F_head_out⟩ := c.1.def_ 46 (d := d_head_out) rfl
  have b_head_out : Binds K fd_head_out ["stream", "lane"] [] := FunD.bindsN F_head_out fun _ _ _ _ _ _ us hl => match us, hl with | [_, _], _ => rfl
  obtain ⟨fd_lane_renewed, F_lane_renewed⟩ := c.1.def_ 47 (d := d_lane_renewed) rfl
  have b_lane_renewed : Binds K fd_lane_renewed ["stream", "lane"] [] := FunD.bindsN F_lane_renewed fun _ _ _ _ _ _ us hl => match us, hl with | [_, _], _ => rfl
  obtain ⟨fd_lane_passed, F_lane_passed⟩ := c.1.def_ 48 (d := d_lane_passed) rfl
  have b_lane_passed : Binds K fd_lane_passed ["stream", "lane"] [] := FunD.bindsN F_lane_passed fun _ _ _ _ _ _ us hl => match us, hl with | [_, _], _ => rfl
  obtain ⟨fd_law_came, F_law_came⟩ := c.1.def_ 49 (d := d_law_came) rfl
  have b_law_came : Binds K fd_law_came ["pot", "stream", "lane", "kept"] [] := FunD.bindsN F_law_came fun _ _ _ _ _ _ us hl => match us, hl with | [_, _, _, _], _ => rfl
  obtain ⟨fd_law_went, F_law_went⟩ := c.1.def_ 50 (d := d_law_went) rfl
  have b_law_went : Binds K fd_law_went ["stream", "lane", "kept"] [] := FunD.bindsN F_law_went fun _ _ _ _ _ _ us hl => match us, hl with | [_, _, _], _ => rfl
  obtain ⟨fd_law_stepped, F_law_stepped⟩ := c.1.def_ 51 (d := d_law_stepped) rfl
  have b_law_stepped : Binds K fd_law_stepped ["pot", "stream", "lane", "kept"] [] := FunD.bindsN F_law_stepped fun _ _ _ _ _ _ us hl => match us, hl with | [_, _, _, _], _ => rfl
  obtain ⟨fd_law, F_law⟩ := c.1.def_ 52 (d := d_law) rfl
  have T : Txt mg := ⟨He.free_ok X G (c.1.fact 53 (f := .free "abs") rfl), He.free_ok X G (c.1.fact 54 (f := .free "all") rfl), He.free_ok X G (c.1.fact 55 (f := .free "bool") rfl), He.free_ok X G (c.1.fact 56 (f := .free "enumerate") rfl), He.free_ok X G (c.1.fact 57 (f := .free "int") rfl), He.free_ok X G (c.1.fact 58 (f := .free "isinstance") rfl), He.free_ok X G (c.1.fact 59 (f := .free "len") rfl), He.free_ok X G (c.1.fact 60 (f := .free "list") rfl), He.free_ok X G (c.1.fact 61 (f := .free "max") rfl), He.free_ok X G (c.1.fact 62 (f := .free "min") rfl), He.free_ok X G (c.1.fact 63 (f := .free "range") rfl), He.free_ok X G (c.1.fact 64 (f := .free "sorted") rfl), He.free_ok X G (c.1.fact 65 (f := .free "tuple") rfl), Kp.bltB_ok X G (Kp.saysB_at c 0 rfl), He.int_ok X G (c.1.fact 66 (f := .int "MOST_FACTOR" 999) rfl), He.int_ok X G (c.1.fact 67 (f := .int "MOST_KEPT" 8) rfl), He.int_ok X G (c.1.fact 68 (f := .int "MOST_LIMIT" 99) rfl), He.int_ok X G (c.1.fact 69 (f := .int "MOST_MARK_late" 99) rfl), He.int_ok X G (c.1.fact 70 (f := .int "MOST_MARK_share" 99) rfl), He.int_ok X G (c.1.fact 71 (f := .int "MOST_OLD" 99) rfl), He.int_ok X G (c.1.fact 72 (f := .int "MOST_PERIOD" 99) rfl), He.int_ok X G (c.1.fact 73 (f := .int "MOST_SIZE" 9) rfl), He.int_ok X G (c.1.fact 74 (f := .int "MOST_SPAN_late" 99) rfl), He.int_ok X G (c.1.fact 75 (f := .int "MOST_SPAN_roots" 99) rfl), He.int_ok X G (c.1.fact 76 (f := .int "MOST_WAIT" 1000000) rfl), He.int_ok X G (c.1.fact 77 (f := .int "MOST_WEIGHT" 9) rfl), He.int_ok X G (c.1.fact 78 (f := .int "WHOLE_SHARE" 1000) rfl)⟩
  have e := hfa.symm.trans (He.glo_ok X G (c.1.fact 52 (f := .glo "law") rfl))
  cases e
  have b := FunD.bindsA (ps := ["script"]) F_law fun _ _ _ _ _ _ us hl => match us, hl with | [_], _ => rfl
  refine ⟨fd_law, fun s v => b s [v] rfl, fun base => ?_⟩
  have C_is_whole := ok_is_whole (P := P) (w := w) (base := base) T  F_is_whole b_is_whole (He.glo_ok X G (c.1.fact 0 (f := .glo "is_whole") rfl))
  have C_pass_late := ok_pass_late (P := P) (w := w) (base := base) T  F_pass_late b_pass_late (He.glo_ok X G (c.1.fact 1 (f := .glo "pass_late") rfl))
  have C_renew_share := ok_renew_share (P := P) (w := w) (base := base) T  F_renew_share b_renew_share (He.glo_ok X G (c.1.fact 2 (f := .glo "renew_share") rfl))
  have C_come_share := ok_come_share (P := P) (w := w) (base := base) T  F_come_share b_come_share (He.glo_ok X G (c.1.fact 3 (f := .glo "come_share") rfl))
  have C_pass_share := ok_pass_share (P := P) (w := w) (base := base) T  F_pass_share b_pass_share (He.glo_ok X G (c.1.fact 4 (f := .glo "pass_share") rfl))
  have C_turn_credit := ok_turn_credit (P := P) (w := w) (base := base) T  F_turn_credit b_turn_credit (He.glo_ok X G (c.1.fact 5 (f := .glo "turn_credit") rfl))
  have C_law_pot := ok_law_pot (P := P) (w := w) (base := base) T  F_law_pot b_law_pot (He.glo_ok X G (c.1.fact 6 (f := .glo "_law_pot") rfl))
  have C_law_take := ok_law_take (P := P) (w := w) (base := base) T  F_law_take b_law_take (He.glo_ok X G (c.1.fact 7 (f := .glo "_law_take") rfl))
  have C_law_folded := ok_law_folded (P := P) (w := w) (base := base) T  F_law_folded b_law_folded (He.glo_ok X G (c.1.fact 8 (f := .glo "_law_folded") rfl))
  have C_is_within := ok_is_within (P := P) (w := w) (base := base) T C_is_whole F_is_within b_is_within (He.glo_ok X G (c.1.fact 9 (f := .glo "is_within") rfl))
  have C_root := ok_root (P := P) (w := w) (base := base) T C_is_whole F_root b_root (He.glo_ok X G (c.1.fact 10 (f := .glo "root") rfl))
  have C_come_by := ok_come_by (P := P) (w := w) (base := base) T C_come_share F_come_by b_come_by (He.glo_ok X G (c.1.fact 11 (f := .glo "come_by") rfl))
  have C_renew_by := ok_renew_by (P := P) (w := w) (base := base) T C_renew_share F_renew_by b_renew_by (He.glo_ok X G (c.1.fact 12 (f := .glo "renew_by") rfl))
  have C_pass_by := ok_pass_by (P := P) (w := w) (base := base) T C_pass_late C_pass_share F_pass_by b_pass_by (He.glo_ok X G (c.1.fact 13 (f := .glo "pass_by") rfl))
  have C_law_late_rule := ok_law_late_rule (P := P) (w := w) (base := base) T C_law_take F_law_late_rule b_law_late_rule (He.glo_ok X G (c.1.fact 14 (f := .glo "_law_late_rule") rfl))
  have C_law_share_rule := ok_law_share_rule (P := P) (w := w) (base := base) T C_law_take F_law_share_rule b_law_share_rule (He.glo_ok X G (c.1.fact 15 (f := .glo "_law_share_rule") rfl))
  have C_check_number := ok_check_number (P := P) (w := w) (base := base) T C_is_within F_check_number b_check_number (He.glo_ok X G (c.1.fact 16 (f := .glo "check_number") rfl))
  have C_is_late := ok_is_late (P := P) (w := w) (base := base) T C_is_within F_is_late b_is_late (He.glo_ok X G (c.1.fact 17 (f := .glo "is_late") rfl))
  have C_fits_late := ok_fits_late (P := P) (w := w) (base := base) T C_is_within F_fits_late b_fits_late (He.glo_ok X G (c.1.fact 18 (f := .glo "fits_late") rfl))
  have C_is_share := ok_is_share (P := P) (w := w) (base := base) T C_is_within F_is_share b_is_share (He.glo_ok X G (c.1.fact 19 (f := .glo "is_share") rfl))
  have C_fits_share := ok_fits_share (P := P) (w := w) (base := base) T C_is_within F_fits_share b_fits_share (He.glo_ok X G (c.1.fact 20 (f := .glo "fits_share") rfl))
  have C_come_to := ok_come_to (P := P) (w := w) (base := base) T C_come_by F_come_to b_come_to (He.glo_ok X G (c.1.fact 21 (f := .glo "come_to") rfl))
  have C_renew_lane := ok_renew_lane (P := P) (w := w) (base := base) T C_renew_by F_renew_lane b_renew_lane (He.glo_ok X G (c.1.fact 22 (f := .glo "renew_lane") rfl))
  have C_pass_lane := ok_pass_lane (P := P) (w := w) (base := base) T C_pass_by F_pass_lane b_pass_lane (He.glo_ok X G (c.1.fact 23 (f := .glo "pass_lane") rfl))
  have C_fits_piece := ok_fits_piece (P := P) (w := w) (base := base) T C_is_within F_fits_piece b_fits_piece (He.glo_ok X G (c.1.fact 24 (f := .glo "_fits_piece") rfl))
  have C_law_rule := ok_law_rule (P := P) (w := w) (base := base) T C_law_take C_law_late_rule C_law_share_rule F_law_rule b_law_rule (He.glo_ok X G (c.1.fact 25 (f := .glo "_law_rule") rfl))
  have C_gap := ok_gap (P := P) (w := w) (base := base) T C_check_number C_root F_gap b_gap (He.glo_ok X G (c.1.fact 26 (f := .glo "gap") rfl))
  have C_check_late := ok_check_late (P := P) (w := w) (base := base) T C_is_late F_check_late b_check_late (He.glo_ok X G (c.1.fact 27 (f := .glo "_check_late") rfl))
  have C_check_share := ok_check_share (P := P) (w := w) (base := base) T C_is_share F_check_share b_check_share (He.glo_ok X G (c.1.fact 28 (f := .glo "_check_share") rfl))
  have C_is_rule := ok_is_rule (P := P) (w := w) (base := base) T C_is_late C_is_share F_is_rule b_is_rule (He.glo_ok X G (c.1.fact 29 (f := .glo "is_rule") rfl))
  have C_fits_memory := ok_fits_memory (P := P) (w := w) (base := base) T C_fits_late C_fits_share F_fits_memory b_fits_memory (He.glo_ok X G (c.1.fact 30 (f := .glo "fits_memory") rfl))
  have C_law_stream := ok_law_stream (P := P) (w := w) (base := base) T C_law_take C_law_rule F_law_stream b_law_stream (He.glo_ok X G (c.1.fact 31 (f := .glo "_law_stream") rfl))
  have C_late_first := ok_late_first (P := P) (w := w) (base := base) T C_check_late F_late_first b_late_first (He.glo_ok X G (c.1.fact 32 (f := .glo "late_first") rfl))
  have C_look_late := ok_look_late (P := P) (w := w) (base := base) T C_gap F_look_late b_look_late (He.glo_ok X G (c.1.fact 33 (f := .glo "look_late") rfl))
  have C_share_first := ok_share_first (P := P) (w := w) (base := base) T C_check_share F_share_first b_share_first (He.glo_ok X G (c.1.fact 34 (f := .glo "share_first") rfl))
  have C_check_rule := ok_check_rule (P := P) (w := w) (base := base) T C_is_rule F_check_rule b_check_rule (He.glo_ok X G (c.1.fact 35 (f := .glo "check_rule") rfl))
  have C_is_stream := ok_is_stream (P := P) (w := w) (base := base) T C_is_within C_is_rule F_is_stream b_is_stream (He.glo_ok X G (c.1.fact 36 (f := .glo "is_stream") rfl))
  have C_fits_lane := ok_fits_lane (P := P) (w := w) (base := base) T C_is_within C_fits_memory C_fits_piece C_turn_credit F_fits_lane b_fits_lane (He.glo_ok X G (c.1.fact 37 (f := .glo "fits_lane") rfl))
  have C_first_memory := ok_first_memory (P := P) (w := w) (base := base) T C_check_rule C_late_first C_share_first F_first_memory b_first_memory (He.glo_ok X G (c.1.fact 38 (f := .glo "first_memory") rfl))
  have C_look_at := ok_look_at (P := P) (w := w) (base := base) T C_look_late F_look_at b_look_at (He.glo_ok X G (c.1.fact 39 (f := .glo "look_at") rfl))
  have C_check_stream := ok_check_stream (P := P) (w := w) (base := base) T C_is_stream F_check_stream b_check_stream (He.glo_ok X G (c.1.fact 40 (f := .glo "_check_stream") rfl))
  have C_is_lane := ok_is_lane (P := P) (w := w) (base := base) T C_check_stream C_fits_lane F_is_lane b_is_lane (He.glo_ok X G (c.1.fact 41 (f := .glo "is_lane") rfl))
  have C_empty_lane := ok_empty_lane (P := P) (w := w) (base := base) T C_check_stream C_first_memory F_empty_lane b_empty_lane (He.glo_ok X G (c.1.fact 42 (f := .glo "empty_lane") rfl))
  have C_go_out := ok_go_out (P := P) (w := w) (base := base) T C_look_at F_go_out b_go_out (He.glo_ok X G (c.1.fact 43 (f := .glo "go_out") rfl))
  have C_check_lane := ok_check_lane (P := P) (w := w) (base := base) T C_is_lane F_check_lane b_check_lane (He.glo_ok X G (c.1.fact 44 (f := .glo "_check_lane") rfl))
  have C_put_in := ok_put_in (P := P) (w := w) (base := base) T C_check_lane C_check_number C_come_to F_put_in  (He.glo_ok X G (c.1.fact 45 (f := .glo "put_in") rfl))
  have C_head_out := ok_head_out (P := P) (w := w) (base := base) T C_check_lane C_go_out F_head_out b_head_out (He.glo_ok X G (c.1.fact 46 (f := .glo "head_out") rfl))
  have C_lane_renewed := ok_lane_renewed (P := P) (w := w) (base := base) T C_check_lane C_renew_lane F_lane_renewed b_lane_renewed (He.glo_ok X G (c.1.fact 47 (f := .glo "lane_renewed") rfl))
  have C_lane_passed := ok_lane_passed (P := P) (w := w) (base := base) T C_check_lane C_pass_lane F_lane_passed b_lane_passed (He.glo_ok X G (c.1.fact 48 (f := .glo "lane_passed") rfl))
  have C_law_came := ok_law_came (P := P) (w := w) (base := base) T C_put_in C_law_take F_law_came b_law_came (He.glo_ok X G (c.1.fact 49 (f := .glo "_law_came") rfl))
  have C_law_went := ok_law_went (P := P) (w := w) (base := base) T C_head_out F_law_went b_law_went (He.glo_ok X G (c.1.fact 50 (f := .glo "_law_went") rfl))
  have C_law_stepped := ok_law_stepped (P := P) (w := w) (base := base) T C_law_take C_lane_passed C_law_came C_law_went C_lane_renewed F_law_stepped b_law_stepped (He.glo_ok X G (c.1.fact 51 (f := .glo "_law_stepped") rfl))
  exact ok_law T C_law_folded C_law_pot C_law_stream C_empty_lane C_law_stepped C_is_lane F_law
end Law
open PySem PySem.W PySem.Calls PyProof.Rows
theorem PySem.Challenge.cw_waitmark_k27_whole_lanes_keep_each_holds : PySem.Challenge.rw_waitmark_k27_whole_lanes_keep_each.Holds := by
  w_on; o_law
  refine HandSHeadRun.head_imp (r := PySem.W.OpenLaw.row PySem.Challenge.rw_waitmark_k27_whole_lanes_keep_each) (q := view (PySem.W.OpenLaw.row PySem.Challenge.rw_waitmark_k27_whole_lanes_keep_each).prog [0, 79]) (H := Law.hk) (ob := Law.ob) (M := 40000) (loose := Law.loose) (d := HandSHeadRun.topDef (PySem.W.OpenLaw.row PySem.Challenge.rw_waitmark_k27_whole_lanes_keep_each).prog 79) (kwd := []) Law.ob_eq
    Law.run (by kernel_rfl) (by kernel_rfl) (by kernel_rfl) (by rfl) (by first | assumption | decide +kernel) (by decide +kernel) ⟨rfl, rfl, rfl, rfl, rfl, by decide +kernel⟩ ?hw ?hc
  case hw => w_witness2
  case hc =>
    refine Kp.walk_x (l := PySem.Challenge.rw_waitmark_k27_whole_lanes_keep_each) (n := 63) (k := 12) (x := "script") rfl (by decide) (by kernel_rfl) ⟨rfl, by decide, by decide⟩ ?F
    intro w mg fa h Y G hmg0
    obtain ⟨K, KX, c⟩ := Y
    have hmg : mg ("law" : PySem.Str) = some (.ref fa) := by
      have e : (HandSHeadRun.topDef (PySem.W.OpenLaw.row PySem.Challenge.rw_waitmark_k27_whole_lanes_keep_each).prog 79).name = ("law" : PySem.Str) := by kernel_rfl
      rw [← e]
      exact hmg0
    obtain ⟨fd, hb, hF⟩ := Law.facts (P := (PySem.Challenge.rw_waitmark_k27_whole_lanes_keep_each).prog) (w := w) KX G hmg c
    exact ⟨K, fd, KX, hb, fun base _ _ => hF base⟩
