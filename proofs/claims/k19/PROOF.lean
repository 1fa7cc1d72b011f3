import PyProof.Rows.All
import Wide.All
import OpenK.AllK
import Wide.FinOn
import HandS.ForMost
import HandS.ForExc
import HandS.Wide
import HandS.IsInst
import HandS.Exc
import HandS.HeadHook1
import HandS.Lambda
import HandS.HeadHook4
import HandS.TupAny
import HandS.NoneIn
import HandS.Style
import HandS.Defaults
import HandS.HeadEnd
import HandS.Flt
import HandS.RaiseMore
import HandS.HeadHook2
import HandS.Star
import HandS.SortKw
import HandS.TupMul
import Flt.RightSqrt
import HandS.Dict
import HandS.Small
import HandS.Iter
import HandS.ExcOwn
import HandS.ExcIs
import HandS.FStr
import HandS.CallSlots
import HandS.HotCalls
import KE.KIsAll
import KE.GoesMore
import HandS.Call
import HandS.Zip
import HandS.List
import KE.DataMinMax
import HandS.Deep
import HandS.SortInts
import HandS.SetFor
import HandS.Conv
import KE.GoesZip
import KE.GoesEnum
import HandS.CallLocal
import HandS.ExcInit
import HandS.ExcField
import HandS.HeadWalk
import KE.KStateDown
import Lean
import HandS.Head0
import HandS.Head1
import HandS.Head2
import HandS.Head3
import PySem.Challenge.RW_waitmark_k19_share_rules_refused
set_option Elab.async false
set_option linter.all false
set_option maxRecDepth 100000
set_option maxHeartbeats 4000000
set_option exponentiation.threshold 500
/-! Kp: data in place of heaps. A slot is data, a cell (a list that changes, by its number), or nothing; a reading over slots and cells stands for one over the heap. -/
namespace Kp
open PySem PySem.Spec PyProof.Rows L2
def bltB (K : PySem.W.Frag) (b : Str × String) : Bool := He.eqO (PySem.W.nsIn K mainGlobals b.1) (some (some (.builtin b.2)))
theorem bltB_ok {K : PySem.W.Frag} {h : Heap} {mg : Str → Option Value} (X : K.In h) (G : h.Ns mainGlobals mg) {x : Str} {id : String} (c : bltB K (x, id) = true) : mg x = some (.builtin id) := PySem.W.mg_of X G (He.eqO_ok c)
abbrev AlB : Type := He.AlD × Bool
def obsB (fa : List He.Fa) (fn : List He.DefD) (bs : List (Str × String)) (K : PySem.W.Frag) : AlB := (He.obsD fa fn K, bs.all (bltB K))
def obsBG (n : Nat) (fa : List He.Fa) (fn : List He.DefD) (bs : List (Str × String)) (g : Addr → Option Obj) : AlB := obsB fa fn bs (He.frG g (He.asD g n))
def saysB (fa : List He.Fa) (fn : List He.DefD) (bs : List (Str × String)) (K : PySem.W.Frag) : Prop := He.SaysD fa fn K ∧ bs.all (bltB K) = true
def hookB (n : Nat) (fa : List He.Fa) (fn : List He.DefD) (bs : List (Str × String)) : PySem.W.Hook where
  α := AlB
  obs := fun s => obsBG n fa fn bs s.heap.get?
  val := fun _ => (He.valD fn, true)
  says := fun _ h => ∃ K : PySem.W.Frag, K.In h ∧ saysB fa fn bs K
  of := fun _ _ e => ⟨_, He.frG_in, congrArg (fun z : AlB => z.1) e, congrArg (fun z : AlB => z.2) e⟩
  keeps := fun _ _ _ ⟨K, hK, c⟩ k => ⟨K, PySem.W.Frag.In.keeps hK k, c⟩
theorem obsBG_eq {n : Nat} {fa : List He.Fa} {fn : List He.DefD} {bs : List (Str × String)} {g : Addr → Option Obj} {s : Shared} (h : ∀ a, g a = s.heap.get? a) : obsBG n fa fn bs g = (hookB n fa fn bs).obs s := by
  have e : g = s.heap.get? := funext h
  rw [e] <;> rfl
theorem saysB_at {fa : List He.Fa} {fn : List He.DefD} {bs : List (Str × String)} {K : PySem.W.Frag} (c : saysB fa fn bs K) (i : Nat) {b : Str × String} (h : bs[i]? = some b := by rfl) : bltB K b = true := List.all_eq_true.mp c.2 b (List.mem_of_getElem? h)
def glB (K : PySem.W.Frag) (x : Str) : Bool := He.eqO (PySem.W.nsIn K mainGlobals x) (some (some (.ref (He.ga K x))))
def xcB (K : PySem.W.Frag) (x : Str) : Bool := He.eqO (PySem.W.nsIn K mainGlobals x) (some (some (.ref (He.ga K x)))) && (He.Fa.exc x).ok K
def exB (K : PySem.W.Frag) (d : Str) : Bool := He.eqO (PySem.W.findIn K (.ref (He.ga K d)) "__getattribute__") (some (some (.builtin "BaseException.__getattribute__"))) && (He.eqO (PySem.W.findIn K (.ref (He.ga K d)) "__getattr__") (some none) &&
  (decide (PySem.W.subIn K (.ref (He.ga K d)) (.type "BaseException") = some true) && (PySem.W.hasDictIn K (He.ga K d) && (He.eqO (PySem.W.findIn K (.ref (He.ga K d)) "__class__") (some (some (.builtin "object.__class__"))) &&
  (He.eqO (PySem.W.specialIn K (.builtin "object.__class__") "__get__") (some (some (.builtin "getset_descriptor.__get__"))) && (decide (PySem.W.takesIn K (.builtin "object.__class__") = some true) && decide (PySem.W.mroIn K (He.ga K d) (.type "object") = some true)))))))
def kxB (K : PySem.W.Frag) (d c : Str) : Bool := decide (PySem.W.kitOne K (.ref (He.ga K d)) (.ref (He.ga K c)) = some (d == c))
def kvB (K : PySem.W.Frag) (d : Str) : Bool := decide (PySem.W.kitOne K (.ref (He.ga K d)) (.type "ValueError") = some true) && decide (PySem.W.exmOne K (.ref (He.ga K d)) (.ref (He.ga K "LineError")) = some true)
def errB (ds rs cl : List Str) (K : PySem.W.Frag) : Bool := (cl.all (glB K) && rs.all (xcB K)) && ds.all fun d => exB K d && (kvB K d && cl.all fun c => d == "LineError" || (c == "LineError" || kxB K d c))
abbrev AlX : Type := AlB × Bool
def obsX (fa : List He.Fa) (fn : List He.DefD) (bs : List (Str × String)) (ds rs cl : List Str) (K : PySem.W.Frag) : AlX := (obsB fa fn bs K, errB ds rs cl K)
def obsXG (n : Nat) (fa : List He.Fa) (fn : List He.DefD) (bs : List (Str × String)) (ds rs cl : List Str) (g : Addr → Option Obj) : AlX := obsX fa fn bs ds rs cl (He.frG g (He.asD g n))
def saysX (fa : List He.Fa) (fn : List He.DefD) (bs : List (Str × String)) (ds rs cl : List Str) (K : PySem.W.Frag) : Prop := saysB fa fn bs K ∧ errB ds rs cl K = true
def hookX (n : Nat) (fa : List He.Fa) (fn : List He.DefD) (bs : List (Str × String)) (ds rs cl : List Str) : PySem.W.Hook where
  α := AlX
  obs := fun s => obsXG n fa fn bs ds rs cl s.heap.get?
  val := fun _ => ((He.valD fn, true), true)
  says := fun _ h => ∃ K : PySem.W.Frag, K.In h ∧ saysX fa fn bs ds rs cl K
  of := fun _ _ e => ⟨_, He.frG_in, ⟨congrArg (fun z : AlX => z.1.1) e, congrArg (fun z : AlX => z.1.2) e⟩, congrArg (fun z : AlX => z.2) e⟩
  keeps := fun _ _ _ ⟨K, hK, c⟩ k => ⟨K, PySem.W.Frag.In.keeps hK k, c⟩
theorem obsXG_eq {n : Nat} {fa : List He.Fa} {fn : List He.DefD} {bs : List (Str × String)} {ds rs cl : List Str} {g : Addr → Option Obj} {s : Shared} (h : ∀ a, g a = s.heap.get? a) : obsXG n fa fn bs ds rs cl g = (hookX n fa fn bs ds rs cl).obs s := by
  have e : g = s.heap.get? := funext h
  rw [e] <;> rfl
/-- the j-th row of a class's body -/
abbrev clsS (s : Stmt) (j : Nat) : Stmt := match s with
  | .ClassDef _ _ _ b _ _ _ _ _ _ _ => b.getD j (.Pass ⟨0, 0, 0, 0⟩)
  | _ => .Pass ⟨0, 0, 0, 0⟩
def oexB (K : PySem.W.Frag) (C : Addr) : Bool := match K.lookup C with
  | some ⟨.type "type", _, .cls c, ss⟩ => (match c.mro with
    | .ref c1 :: bm => c1 == C && (c.hasDict && (!c.hasDel && (PySem.HandSPX.refsVE bm && (match ss.toList with
      | [_, _, _, _, some (.builtin nw), _] => nw == "ValueError.__new__"
      | _ => false))))
    | _ => false)
  | _ => false
def nrB (K : PySem.W.Frag) : Bool := oexB K (He.ga K "NoRun") && (He.eqO (PySem.W.findIn K (.ref (He.ga K "NoRun")) "__setattr__") (some (some (.builtin "object.__setattr__"))) && (decide (PySem.W.subIn K (.ref (He.ga K "NoRun")) (.type "BaseException") = some true) &&
  (decide (PySem.W.typeIn K (.ref (He.ga K "NoRun")) = some (.type "type")) && (PySem.W.keepIn K (.ref (He.ga K "NoRun")) && (He.eqO (PySem.W.findIn K (.ref (He.ga K "NoRun")) "number") (some none) &&
  (He.eqO (PySem.W.specialIn K (.ref (He.ga K "LineError")) "__getattribute__") (some (some (.builtin "type.__getattribute__"))) && (PySem.W.readsIn K (He.ga K "LineError") (.type "type") && ((match PySem.W.findCls K (.ref (He.ga K "LineError")) (.type "type") "__init__" with
    | some (.val (.builtin z)) => z == "ValueError.__init__"
    | _ => false) && exB K "NoRun"))))))))
abbrev AlN : Type := AlX × Bool
def obsN (fa : List He.Fa) (fn : List He.DefD) (bs : List (Str × String)) (ds rs cl : List Str) (K : PySem.W.Frag) : AlN := (obsX fa fn bs ds rs cl K, nrB K)
def obsNG (n : Nat) (fa : List He.Fa) (fn : List He.DefD) (bs : List (Str × String)) (ds rs cl : List Str) (g : Addr → Option Obj) : AlN := obsN fa fn bs ds rs cl (He.frG g (PySem.cStatics :: He.asD g n))
def saysN (fa : List He.Fa) (fn : List He.DefD) (bs : List (Str × String)) (ds rs cl : List Str) (K : PySem.W.Frag) : Prop := saysX fa fn bs ds rs cl K ∧ nrB K = true
def hookN (n : Nat) (fa : List He.Fa) (fn : List He.DefD) (bs : List (Str × String)) (ds rs cl : List Str) : PySem.W.Hook where
  α := AlN
  obs := fun s => obsNG n fa fn bs ds rs cl s.heap.get?
  val := fun _ => (((He.valD fn, true), true), true)
  says := fun _ h => ∃ K : PySem.W.Frag, K.In h ∧ saysN fa fn bs ds rs cl K
  of := fun _ _ e => ⟨_, He.frG_in, ⟨⟨congrArg (fun z : AlN => z.1.1.1) e, congrArg (fun z : AlN => z.1.1.2) e⟩, congrArg (fun z : AlN => z.1.2) e⟩, congrArg (fun z : AlN => z.2) e⟩
  keeps := fun _ _ _ ⟨K, hK, c⟩ k => ⟨K, PySem.W.Frag.In.keeps hK k, c⟩
theorem obsNG_eq {n : Nat} {fa : List He.Fa} {fn : List He.DefD} {bs : List (Str × String)} {ds rs cl : List Str} {g : Addr → Option Obj} {s : Shared} (h : ∀ a, g a = s.heap.get? a) : obsNG n fa fn bs ds rs cl g = (hookN n fa fn bs ds rs cl).obs s := by
  have e : g = s.heap.get? := funext h
  rw [e] <;> rfl
abbrev AlL : Type := AlX × Bool
def obsLG (n : Nat) (fa : List He.Fa) (fn : List He.DefD) (bs : List (Str × String)) (ds rs cl : List Str) (tf : List He.Defn) (g : Addr → Option Obj) : AlL := (obsX fa fn bs ds rs cl (He.frT g (He.asD g n)), He.tabsB g tf (He.frT g (He.asD g n)))
def saysL (fa : List He.Fa) (fn : List He.DefD) (bs : List (Str × String)) (ds rs cl : List Str) (tf : List He.Defn) (h : Heap) (K : PySem.W.Frag) : Prop := saysX fa fn bs ds rs cl K ∧ ∀ p ∈ tf, PySem.W.codeHdIn K (He.cT K p).1 (He.cT K p).2 = true ∧ K.lookup (He.cT K p).2 = none ∧ h.get? (He.cT K p).2 = some { cls := .none, data := .fields #[] }
theorem saysL_of {n : Nat} {fa : List He.Fa} {fn : List He.DefD} {bs : List (Str × String)} {ds rs cl : List Str} {tf : List He.Defn} {h : Heap} (e : obsLG n fa fn bs ds rs cl tf h.get? = (((He.valD fn, true), true), true)) : saysL fa fn bs ds rs cl tf h (He.frT h.get? (He.asD h.get? n)) := by
  refine ⟨⟨⟨congrArg (fun z : AlL => z.1.1.1) e, congrArg (fun z : AlL => z.1.1.2) e⟩, congrArg (fun z : AlL => z.1.2) e⟩, fun p hp => ?_⟩
  have e2 : He.tabsB h.get? tf (He.frT h.get? (He.asD h.get? n)) = true := congrArg (fun z : AlL => z.2) e
  obtain ⟨h3, h4⟩ := Bool.and_eq_true_iff.mp (List.all_eq_true.mp e2 p hp)
  cases q : h.get? (He.cT (He.frT h.get? (He.asD h.get? n)) p).2 with
  | none => rw [q] at h4; cases h4
  | some o =>
    rw [q] at h4
    exact ⟨h3, He.frT_none q h4, congrArg some (He.emptyTab_eq h4)⟩
def hookL (n : Nat) (fa : List He.Fa) (fn : List He.DefD) (bs : List (Str × String)) (ds rs cl : List Str) (tf : List He.Defn) : PySem.W.Hook where
  α := AlL
  obs := fun s => obsLG n fa fn bs ds rs cl tf s.heap.get?
  val := fun _ => (((He.valD fn, true), true), true)
  says := fun _ h => ∃ K : PySem.W.Frag, K.In h ∧ saysL fa fn bs ds rs cl tf h K
  of := fun _ _ e => ⟨_, He.frT_in, saysL_of e⟩
  keeps := fun _ _ _ ⟨K, hK, c⟩ k => ⟨K, PySem.W.Frag.In.keeps hK k, c.1, fun p hp => ⟨(c.2 p hp).1, (c.2 p hp).2.1, k _ _ (c.2 p hp).2.2⟩⟩
theorem obsLG_eq {n : Nat} {fa : List He.Fa} {fn : List He.DefD} {bs : List (Str × String)} {ds rs cl : List Str} {tf : List He.Defn} {g : Addr → Option Obj} {s : Shared} (h : ∀ a, g a = s.heap.get? a) : obsLG n fa fn bs ds rs cl tf g = (hookL n fa fn bs ds rs cl tf).obs s := by
  have e : g = s.heap.get? := funext h
  rw [e] <;> rfl
end Kp
namespace Law
open PySem PySem.Spec PyProof.Rows L2 Kp
abbrev topS (i : Nat) : Stmt := PySem.Challenge.pw_waitmark_k19_share_rules_refused.main.body.getD i (.Pass ⟨0, 0, 0, 0⟩)
abbrev s_is_whole : Stmt := topS 15
abbrev s_renew_share : Stmt := topS 34
abbrev s_come_share : Stmt := topS 35
abbrev s_pass_share : Stmt := topS 36
abbrev s_law_pot : Stmt := topS 40
abbrev s_law_take : Stmt := topS 41
abbrev s_law_whole : Stmt := topS 42
abbrev s_is_within : Stmt := topS 16
abbrev s_law_late_rule : Stmt := topS 43
abbrev s_law_share_rule : Stmt := topS 44
abbrev s_law_odd : Stmt := topS 45
abbrev s_check_number : Stmt := topS 17
abbrev s_is_share : Stmt := topS 26
abbrev s_fits_share : Stmt := topS 33
abbrev s_law_spoilt : Stmt := topS 47
abbrev s_check_wait : Stmt := topS 18
abbrev s_check_share : Stmt := topS 37
abbrev s_is_share_memory : Stmt := topS 27
abbrev s_share_first : Stmt := topS 28
abbrev s_check_memory : Stmt := topS 38
abbrev s_share_renewed : Stmt := topS 29
abbrev s_share_come : Stmt := topS 30
abbrev s_share_passed : Stmt := topS 31
abbrev s_share_struck : Stmt := topS 32
abbrev DsX : List Str := [("NoRule" : Str), ("NoMemory" : Str), ("NoNumber" : Str)]
abbrev RsX : List Str := [("NoRule" : Str), ("NoMemory" : Str), ("NoNumber" : Str)]
abbrev ClX : List Str := [("LineError" : Str), ("NoStreams" : Str), ("NoComers" : Str), ("NoRate" : Str), ("NoNumber" : Str), ("NoRule" : Str), ("NoMemory" : Str), ("NoStream" : Str), ("NoLane" : Str), ("NoStanding" : Str), ("NoDeed" : Str), ("NoRun" : Str)]
abbrev s_law_word : Stmt := topS 48
abbrev s_law_share_memory : Stmt := topS 46
abbrev s_law_is_share : Stmt := topS 49
abbrev s_law_is_share_memory : Stmt := topS 50
abbrev s_law_rules : Stmt := topS 52
abbrev s_law_memories : Stmt := topS 53
abbrev s_law_met : Stmt := topS 51
abbrev s_law_right : Stmt := topS 54
abbrev s_law : Stmt := topS 55
/-! ### the head -/
def d_is_whole : He.DefD := ⟨("is_whole", none), "is_whole", "is_whole", defArgs s_is_whole, defBody s_is_whole, defScope s_is_whole, [], []⟩
def d_renew_share : He.DefD := ⟨("renew_share", none), "renew_share", "renew_share", defArgs s_renew_share, defBody s_renew_share, defScope s_renew_share, [], []⟩
def d_come_share : He.DefD := ⟨("come_share", none), "come_share", "come_share", defArgs s_come_share, defBody s_come_share, defScope s_come_share, [], []⟩
def d_pass_share : He.DefD := ⟨("pass_share", none), "pass_share", "pass_share", defArgs s_pass_share, defBody s_pass_share, defScope s_pass_share, [], []⟩
def d_law_pot : He.DefD := ⟨("_law_pot", none), "_law_pot", "_law_pot", defArgs s_law_pot, defBody s_law_pot, defScope s_law_pot, [], []⟩
def d_law_take : He.DefD := ⟨("_law_take", none), "_law_take", "_law_take", defArgs s_law_take, defBody s_law_take, defScope s_law_take, [], []⟩
def d_law_whole : He.DefD := ⟨("_law_whole", none), "_law_whole", "_law_whole", defArgs s_law_whole, defBody s_law_whole, defScope s_law_whole, [], []⟩
def d_law_word : He.DefD := ⟨("_law_word", none), "_law_word", "_law_word", defArgs s_law_word, defBody s_law_word, defScope s_law_word, [], []⟩
def d_is_within : He.DefD := ⟨("is_within", none), "is_within", "is_within", defArgs s_is_within, defBody s_is_within, defScope s_is_within, [], []⟩
def d_law_late_rule : He.DefD := ⟨("_law_late_rule", none), "_law_late_rule", "_law_late_rule", defArgs s_law_late_rule, defBody s_law_late_rule, defScope s_law_late_rule, [], []⟩
def d_law_share_rule : He.DefD := ⟨("_law_share_rule", none), "_law_share_rule", "_law_share_rule", defArgs s_law_share_rule, defBody s_law_share_rule, defScope s_law_share_rule, [], []⟩
def d_law_odd : He.DefD := ⟨("_law_odd", none), "_law_odd", "_law_odd", defArgs s_law_odd, defBody s_law_odd, defScope s_law_odd, [], []⟩
def d_law_share_memory : He.DefD := ⟨("_law_share_memory", none), "_law_share_memory", "_law_share_memory", defArgs s_law_share_memory, defBody s_law_share_memory, defScope s_law_share_memory, [], []⟩
def d_law_is_share : He.DefD := ⟨("_law_is_share", none), "_law_is_share", "_law_is_share", defArgs s_law_is_share, defBody s_law_is_share, defScope s_law_is_share, [], []⟩
def d_law_is_share_memory : He.DefD := ⟨("_law_is_share_memory", none), "_law_is_share_memory", "_law_is_share_memory", defArgs s_law_is_share_memory, defBody s_law_is_share_memory, defScope s_law_is_share_memory, [], []⟩
def d_check_number : He.DefD := ⟨("check_number", none), "check_number", "check_number", defArgs s_check_number, defBody s_check_number, defScope s_check_number, [], []⟩
def d_is_share : He.DefD := ⟨("is_share", none), "is_share", "is_share", defArgs s_is_share, defBody s_is_share, defScope s_is_share, [], []⟩
def d_fits_share : He.DefD := ⟨("fits_share", none), "fits_share", "fits_share", defArgs s_fits_share, defBody s_fits_share, defScope s_fits_share, [], []⟩
def d_law_spoilt : He.DefD := ⟨("_law_spoilt", none), "_law_spoilt", "_law_spoilt", defArgs s_law_spoilt, defBody s_law_spoilt, defScope s_law_spoilt, [], []⟩
def d_check_wait : He.DefD := ⟨("check_wait", none), "check_wait", "check_wait", defArgs s_check_wait, defBody s_check_wait, defScope s_check_wait, [], []⟩
def d_check_share : He.DefD := ⟨("_check_share", none), "_check_share", "_check_share", defArgs s_check_share, defBody s_check_share, defScope s_check_share, [], []⟩
def d_law_rules : He.DefD := ⟨("_law_rules", none), "_law_rules", "_law_rules", defArgs s_law_rules, defBody s_law_rules, defScope s_law_rules, [], []⟩
def d_law_memories : He.DefD := ⟨("_law_memories", none), "_law_memories", "_law_memories", defArgs s_law_memories, defBody s_law_memories, defScope s_law_memories, [], []⟩
def d_is_share_memory : He.DefD := ⟨("is_share_memory", none), "is_share_memory", "is_share_memory", defArgs s_is_share_memory, defBody s_is_share_memory, defScope s_is_share_memory, [], []⟩
def d_share_first : He.DefD := ⟨("share_first", none), "share_first", "share_first", defArgs s_share_first, defBody s_share_first, defScope s_share_first, [], []⟩
def d_check_memory : He.DefD := ⟨("_check_memory", none), "_check_memory", "_check_memory", defArgs s_check_memory, defBody s_check_memory, defScope s_check_memory, [], []⟩
def d_share_renewed : He.DefD := ⟨("share_renewed", none), "share_renewed", "share_renewed", defArgs s_share_renewed, defBody s_share_renewed, defScope s_share_renewed, [], []⟩
def d_share_come : He.DefD := ⟨("share_come", none), "share_come", "share_come", defArgs s_share_come, defBody s_share_come, defScope s_share_come, [], []⟩
def d_share_passed : He.DefD := ⟨("share_passed", none), "share_passed", "share_passed", defArgs s_share_passed, defBody s_share_passed, defScope s_share_passed, [], []⟩
def d_share_struck : He.DefD := ⟨("share_struck", none), "share_struck", "share_struck", defArgs s_share_struck, defBody s_share_struck, defScope s_share_struck, [], []⟩
def d_law_met : He.DefD := ⟨("_law_met", none), "_law_met", "_law_met", defArgs s_law_met, defBody s_law_met, defScope s_law_met, [], []⟩
def d_law_right : He.DefD := ⟨("_law_right", none), "_law_right", "_law_right", defArgs s_law_right, defBody s_law_right, defScope s_law_right, [], []⟩
def d_law : He.DefD := ⟨("law", none), "law", "law", defArgs s_law, defBody s_law, defScope s_law, [], []⟩
def fn0 : List He.DefD := [d_is_whole, d_renew_share, d_come_share, d_pass_share, d_law_pot, d_law_take, d_law_whole, d_law_word, d_is_within, d_law_late_rule, d_law_share_rule, d_law_odd, d_law_share_memory, d_law_is_share, d_law_is_share_memory, d_check_number, d_is_share, d_fits_share, d_law_spoilt, d_check_wait]
def fn1 : List He.DefD := [d_check_share, d_law_rules, d_law_memories, d_is_share_memory, d_share_first, d_check_memory, d_share_renewed, d_share_come, d_share_passed, d_share_struck, d_law_met, d_law_right, d_law]
def fn : List He.DefD := fn0 ++ fn1
def fa0 : List He.Fa := [.glo "is_whole", .glo "renew_share", .glo "come_share", .glo "pass_share", .glo "_law_pot", .glo "_law_take", .glo "_law_whole", .glo "_law_word", .glo "is_within", .glo "_law_late_rule", .glo "_law_share_rule", .glo "_law_odd", .glo "_law_share_memory", .glo "_law_is_share", .glo "_law_is_share_memory", .glo "check_number", .glo "is_share", .glo "fits_share", .glo "_law_spoilt", .glo "check_wait"]
def fa1 : List He.Fa := [.glo "_check_share", .glo "_law_rules", .glo "_law_memories", .glo "is_share_memory", .glo "share_first", .glo "_check_memory", .glo "share_renewed", .glo "share_come", .glo "share_passed", .glo "share_struck", .glo "_law_met", .glo "_law_right", .glo "law", .free "ValueError", .free "abs", .free "bool", .free "int", .free "isinstance", .free "len", .free "list"]
def fa2 : List He.Fa := [.free "max", .free "min", .free "range", .free "repr", .free "tuple", .int "MOST_COME" 9999, .int "MOST_FACTOR" 999, .int "MOST_MARK" 99, .int "MOST_OLD" 99, .int "MOST_PERIOD" 99, .int "MOST_WAIT" 1000000, .int "WHOLE_SHARE" 1000]
def fa : List He.Fa := fa0 ++ fa1 ++ fa2
def loose0 : List Str := ["LineError", "NoStreams", "NoComers", "NoRate", "NoNumber", "NoRule", "NoMemory", "NoStream", "NoLane", "NoStanding", "NoDeed", "NoRun", "MOST_WAIT", "is_whole", "is_within", "check_number", "check_wait", "MOST_MARK", "MOST_PERIOD", "MOST_FACTOR"]
def loose1 : List Str := ["MOST_OLD", "WHOLE_SHARE", "MOST_COME", "is_share", "is_share_memory", "share_first", "share_renewed", "share_come", "share_passed", "share_struck", "fits_share", "renew_share", "come_share", "pass_share", "_check_share", "_check_memory", "_law_pot", "_law_take", "_law_whole", "_law_late_rule"]
def loose2 : List Str := ["_law_share_rule", "_law_odd", "_law_share_memory", "_law_spoilt", "_law_word", "_law_is_share", "_law_is_share_memory", "_law_met", "_law_rules", "_law_memories", "_law_right"]
def loose : List Str := loose0 ++ loose1 ++ loose2
def tf : List He.Defn := [("_law_right", none)]
def bs : List (Str × String) := []
abbrev R : PySem.W.OpenRow := PySem.W.OpenLaw.row PySem.Challenge.rw_waitmark_k19_share_rules_refused
abbrev hk : PySem.W.Hook := Kp.hookL 4 fa fn bs DsX RsX ClX tf
def ob (s : PySem.W.SharedT) : Kp.AlL := Kp.obsLG 4 fa fn bs DsX RsX ClX tf (HandSHeadRun.getT s)
theorem ob_eq (s : PySem.W.SharedT) : ob s = hk.obs s.abs := Kp.obsLG_eq (HandSHeadRun.getT_eq s)
theorem run (w : World) : HandSHeadRun.RunEq R (PySem.W.view R.prog [55]) hk ob 6000 loose w := by
  intro os
  kernel_rfl
end Law
namespace Kp
open PySem PySem.Spec PyProof.Rows L2

abbrev Frag := PySem.W.Frag
abbrev CS := List (List PyData)
/-- a class of one's own: its name, its fields in the order they are set first; true: a list of the object's own stands there -/
structure OC where
  nm : Str
  fs : List (Str × Bool)
/-- what a cell is: a list; a dict with such keys; an object -/
inductive Kd where
  | lst | dic (keys : List Str) | obj (c : OC) | tab (nm q : Str)
structure CA where
  a : Addr
  kd : Kd
def flat (as : List CA) : List Addr := as.map CA.a
instance : Membership Addr (List CA) := ⟨fun as b => b ∈ flat as⟩
instance (b : Addr) (as : List CA) : Decidable (b ∈ as) := inferInstanceAs (Decidable (b ∈ flat as))
theorem flat_app (x y : List CA) : flat (x ++ y) = flat x ++ flat y := List.map_append
theorem mem_app {b : Addr} {x y : List CA} : b ∈ x ++ y ↔ b ∈ x ∨ b ∈ y := by
  show b ∈ flat (x ++ y) ↔ b ∈ flat x ∨ b ∈ flat y
  rw [flat_app]; exact List.mem_append
theorem mem_appL {b : Addr} {x y : List CA} (h : b ∈ x) : b ∈ x ++ y := mem_app.mpr (.inl h)
theorem mem_appR {b : Addr} {x y : List CA} (h : b ∈ y) : b ∈ x ++ y := mem_app.mpr (.inr h)
theorem mem_one {b p : Addr} {k : Kd} : b ∈ ([⟨p, k⟩] : List CA) ↔ b = p := by
  show b ∈ [p] ↔ b = p
  exact List.mem_singleton
theorem mem_cons {b p : Addr} {k : Kd} {as : List CA} : b ∈ (⟨p, k⟩ :: as : List CA) ↔ b = p ∨ b ∈ as := by
  show b ∈ p :: flat as ↔ b = p ∨ b ∈ flat as
  exact List.mem_cons
abbrev cl (p : Addr) : CA := ⟨p, .lst⟩
theorem mem_drop {b : Addr} {as : List CA} {m : Nat} (h : b ∈ as.drop m) : b ∈ as := by
  have h' : b ∈ (as.drop m).map CA.a := h
  rw [List.map_drop] at h'
  exact List.mem_of_mem_drop h'
theorem mem_self {p : Addr} {k : Kd} {as : List CA} : p ∈ (⟨p, k⟩ :: as : List CA) := mem_cons.mpr (.inl rfl)
theorem mem_at {as : List CA} {f : CA} {j : Nat} (h : as[j]? = some f) : f.a ∈ as := by
  show f.a ∈ as.map CA.a
  exact List.mem_map_of_mem (List.mem_of_getElem? h)
theorem at_mem {as : List CA} {b : Addr} (h : b ∈ as) : ∃ (j : Nat) (f : CA), as[j]? = some f ∧ f.a = b := by
  have h' : b ∈ as.map CA.a := h
  obtain ⟨f, h1, h2⟩ := List.mem_map.mp h'
  obtain ⟨j, hj⟩ := List.getElem?_of_mem h1
  exact ⟨j, f, hj, h2⟩
/-- exceptions, by the names of their classes -/
abbrev XD := Str → CS → Prop

/-! ### pairs -/
theorem pr_get {α β : Type} {F : α → β → Prop} : ∀ {l : List α} {m : List β} {i : Nat} {y : β}, Paired F l m → m[i]? = some y → ∃ x, l[i]? = some x ∧ F x y
  | _, _, _, _, .nil, e => by simp at e
  | _, _, 0, _, .cons r _, e => by simp at e; subst e; exact ⟨_, rfl, r⟩
  | _, _, i + 1, y, .cons _ t, e => by
    obtain ⟨x, h1, h2⟩ := pr_get (i := i) (y := y) t (by simpa using e)
    exact ⟨x, by simpa using h1, h2⟩
theorem pr_get' {α β : Type} {F : α → β → Prop} : ∀ {l : List α} {m : List β} {i : Nat} {x : α}, Paired F l m → l[i]? = some x → ∃ y, m[i]? = some y ∧ F x y
  | _, _, _, _, .nil, e => by simp at e
  | _, _, 0, _, .cons r _, e => by simp at e; subst e; exact ⟨_, rfl, r⟩
  | _, _, i + 1, y, .cons _ t, e => by
    obtain ⟨x, h1, h2⟩ := pr_get' (i := i) (x := y) t (by simpa using e)
    exact ⟨x, by simpa using h1, h2⟩
theorem pr_set {α β : Type} {F : α → β → Prop} {x : α} {y : β} (r : F x y) : ∀ {l : List α} {m : List β} (i : Nat), Paired F l m → Paired F (l.set i x) (m.set i y)
  | _, _, _, .nil => .nil
  | _, _, 0, .cons _ t => .cons r t
  | _, _, i + 1, .cons q t => .cons q (pr_set r i t)
theorem pr_map {α β : Type} {F G : α → β → Prop} (f : ∀ a b, F a b → G a b) : ∀ {l : List α} {m : List β}, Paired F l m → Paired G l m
  | _, _, .nil => .nil
  | _, _, .cons r t => .cons (f _ _ r) (pr_map f t)
/-- .. with membership on the left -/
theorem pr_mapm {α β : Type} {F G : α → β → Prop} : ∀ {l : List α} {m : List β}, (∀ a b, a ∈ l → F a b → G a b) → Paired F l m → Paired G l m
  | _, _, _, .nil => .nil
  | _, _, f, .cons r t => .cons (f _ _ List.mem_cons_self r) (pr_mapm (fun a b h => f a b (List.mem_cons_of_mem _ h)) t)
theorem pr_len {α β : Type} {F : α → β → Prop} {l : List α} {m : List β} (h : Paired F l m) : l.length = m.length := Paired.length h

/-! ### what is hidden: the cells, and the lists that objects own -/
def refsOf : List (Str × Bool) → List (Str × V) → List Addr
  | (_, true) :: ns, (_, .ref b) :: fs => b :: refsOf ns fs
  | _ :: ns, _ :: fs => refsOf ns fs
  | _, _ => []
def ownO (c : OC) : Option HO → Option (List Addr)
  | some (.ins _ _ fs) => some (refsOf c.fs fs)
  | _ => none
def ownL (H : Hp) : CA → Option (List Addr)
  | ⟨a, .obj c⟩ => ownO c (H a)
  | _ => some []
theorem own_at {H : Hp} {a C dx : Addr} {c : OC} {fs : List (Str × V)} (h : H a = some (.ins C dx fs)) : ownL H ⟨a, .obj c⟩ = some (refsOf c.fs fs) := by
  show ownO c (H a) = _
  rw [h]; rfl
def adr (H : Hp) (f : CA) : List Addr := f.a :: (ownL H f).getD []
def hdl (H : Hp) (as : List CA) : List Addr := as.flatMap (adr H)
def Lv (H : Hp) (as : List CA) : Prop := ∀ (i : Nat) (f : CA), as[i]? = some f → (ownL H f).isSome = true
def Vs (H : Hp) (as : List CA) (b : Addr) : Prop := Lv H as ∧ b ∉ hdl H as
theorem hdl_app {H : Hp} {x y : List CA} : hdl H (x ++ y) = hdl H x ++ hdl H y := List.flatMap_append
theorem hdl_cons {H : Hp} {f : CA} {y : List CA} : hdl H (f :: y) = adr H f ++ hdl H y := List.flatMap_cons
theorem mem_hdl : ∀ {H : Hp} {as : List CA} {b : Addr}, b ∈ hdl H as ↔ ∃ (i : Nat) (f : CA), as[i]? = some f ∧ b ∈ adr H f := by
  intro H as b
  constructor
  · intro h
    obtain ⟨f, h1, h2⟩ := List.mem_flatMap.mp h
    obtain ⟨i, hi⟩ := List.getElem?_of_mem h1
    exact ⟨i, f, hi, h2⟩
  · intro ⟨i, f, h1, h2⟩
    exact List.mem_flatMap.mpr ⟨f, List.mem_of_getElem? h1, h2⟩
theorem Lv.app {H : Hp} {x y : List CA} (h1 : Lv H x) (h2 : Lv H y) : Lv H (x ++ y) := fun i f h => by
  by_cases q : i < x.length
  · rw [List.getElem?_append_left q] at h; exact h1 i f h
  · rw [List.getElem?_append_right (by omega)] at h; exact h2 _ f h
theorem Lv.left {H : Hp} {x y : List CA} (h : Lv H (x ++ y)) : Lv H x := fun i f q => h i f (by rw [List.getElem?_append_left (List.getElem?_eq_some_iff.mp q).1]; exact q)
theorem Lv.right {H : Hp} {x y : List CA} (h : Lv H (x ++ y)) : Lv H y := fun i f q => h (x.length + i) f (by rw [List.getElem?_append_right (by omega), show x.length + i - x.length = i by omega]; exact q)
theorem Vs.app {H : Hp} {x y : List CA} {b : Addr} (h1 : Vs H x b) (h2 : Vs H y b) : Vs H (x ++ y) b := ⟨h1.1.app h2.1, by
  rw [hdl_app]
  exact fun z => (List.mem_append.mp z).elim h1.2 h2.2⟩
theorem Vs.right {H : Hp} {x y : List CA} {b : Addr} (h : Vs H (x ++ y) b) : Vs H y b := ⟨h.1.right, fun z => h.2 (by rw [hdl_app]; exact List.mem_append_right _ z)⟩
theorem Vs.left {H : Hp} {x y : List CA} {b : Addr} (h : Vs H (x ++ y) b) : Vs H x b := ⟨h.1.left, fun z => h.2 (by rw [hdl_app]; exact List.mem_append_left _ z)⟩
theorem Vs.nil {H : Hp} {b : Addr} : Vs H [] b := ⟨fun i f h => by simp at h, fun z => by cases z⟩
theorem adr_self {H : Hp} {f : CA} : f.a ∈ adr H f := List.mem_cons_self
theorem Vs.out {H : Hp} {as : List CA} {b : Addr} (h : Vs H as b) : b ∉ as := fun z => by
  obtain ⟨j, f, h1, h2⟩ := at_mem z
  exact h.2 (mem_hdl.mpr ⟨j, f, h1, by rw [← h2]; exact adr_self⟩)
theorem Vs.drop {H : Hp} {as : List CA} {b : Addr} (m : Nat) (h : Vs H as b) : Vs H (as.drop m) b := by
  have h' : Vs H (as.take m ++ as.drop m) b := by rw [List.take_append_drop]; exact h
  exact h'.right
theorem Lv.ls {H : Hp} {as : List CA} (h : ∀ (i : Nat) (f : CA), as[i]? = some f → f.kd = .lst ∨ ∃ ks, f.kd = .dic ks) : Lv H as := fun i f q => by
  obtain ⟨a, kd⟩ := f
  rcases h i _ q with e | ⟨ks, e⟩
  · cases (show kd = _ from e); rfl
  · cases (show kd = _ from e); rfl
/-- two heaps that hold the same objects at these cells -/
theorem ownL_eq {H H' : Hp} {f : CA} (h : H' f.a = H f.a) : ownL H' f = ownL H f := by
  obtain ⟨a, kd⟩ := f
  cases kd with
  | lst => rfl
  | dic ks => rfl
  | tab nm q => rfl
  | obj c =>
    have h' : H' a = H a := h
    show ownO c (H' a) = ownO c (H a)
    rw [h']
theorem adr_eq {H H' : Hp} {f : CA} (h : H' f.a = H f.a) : adr H' f = adr H f := by unfold adr; rw [ownL_eq h]
theorem adr_lst {H : Hp} {a : Addr} : adr H ⟨a, .lst⟩ = [a] := rfl
theorem adr_dic {H : Hp} {a : Addr} {ks : List Str} : adr H ⟨a, .dic ks⟩ = [a] := rfl
theorem hdl_eq {H H' : Hp} : ∀ {as : List CA}, (∀ (i : Nat) (f : CA), as[i]? = some f → adr H' f = adr H f) → hdl H' as = hdl H as
  | [], _ => rfl
  | f :: as, h => by rw [hdl_cons, hdl_cons, h 0 f rfl, hdl_eq (as := as) fun i g q => h (i + 1) g (by simpa using q)]

/-! ### data at a value -/
open Classical in
noncomputable def hid (H : Hp) (as : List CA) : Hp := fun b => if Vs H as b then H b else none
theorem hid_out {H : Hp} {as : List CA} {b : Addr} (h : Vs H as b) : hid H as b = H b := by unfold hid; rw [if_pos h]
theorem hid_of {H : Hp} {as : List CA} {b : Addr} {o : HO} (h : hid H as b = some o) : Vs H as b ∧ H b = some o := by
  unfold hid at h
  by_cases q : Vs H as b
  · rw [if_pos q] at h; exact ⟨q, h⟩
  · rw [if_neg q] at h; cases h
theorem hid_sub (H : Hp) (as : List CA) : Same (hid H as) H := fun _ _ h => (hid_of h).2
theorem hid_nil (H : Hp) : hid H [] = H := by
  funext b
  exact hid_out .nil

theorem same_t {K : Frag} {H H' : Hp} {a : Addr} {xs : List V} (e : Same H H') (h : SqT K H a xs) : SqT K H' a xs := by
  rcases h with (h | ⟨o, h⟩) | h
  · exact .inl (.inl (e _ _ h))
  · exact .inl (.inr ⟨o, e _ _ h⟩)
  · exact .inr h

mutual
inductive Dq (K : Frag) (H : Hp) : V → PyData → Prop
  | non : Dq K H .non .none
  | bl (b : Bool) : Dq K H (.bl b) (.bool b)
  | int (i : Int) : Dq K H (.int i) (.int i)
  | str (x : Str) : Dq K H (.str x) (.str x)
  | lst {a : Addr} {xs : List V} {ds : List PyData} : H a = some (.lst xs) → DqAll K H xs ds → Dq K H (.ref a) (.list ds)
  | tup {a : Addr} {xs : List V} {ds : List PyData} : SqT K H a xs → DqAll K H xs ds → Dq K H (.ref a) (.tuple ds)
  | emp {a : Addr} : H a = some (.dK []) → Dq K H (.ref a) (.dict [])
inductive DqAll (K : Frag) (H : Hp) : List V → List PyData → Prop
  | nil : DqAll K H [] []
  | cons {v : V} {vs : List V} {d : PyData} {ds : List PyData} : Dq K H v d → DqAll K H vs ds → DqAll K H (v :: vs) (d :: ds)
end
mutual
theorem Dq.mono {K : Frag} {H H' : Hp} (s : Same H H') : ∀ {v : V} {d : PyData}, Dq K H v d → Dq K H' v d
  | _, _, .non => .non
  | _, _, .bl b => .bl b
  | _, _, .int i => .int i
  | _, _, .str x => .str x
  | _, _, .lst h a => .lst (s _ _ h) (DqAll.mono s a)
  | _, _, .tup h a => .tup (same_t s h) (DqAll.mono s a)
  | _, _, .emp h => .emp (s _ _ h)
theorem DqAll.mono {K : Frag} {H H' : Hp} (s : Same H H') : ∀ {vs : List V} {ds : List PyData}, DqAll K H vs ds → DqAll K H' vs ds
  | _, _, .nil => .nil
  | _, _, .cons h t => .cons (Dq.mono s h) (DqAll.mono s t)
end
section
variable {K : Frag} {H : Hp}
theorem DqAll.len : ∀ {vs : List V} {ds : List PyData}, DqAll K H vs ds → vs.length = ds.length
  | _, _, .nil => rfl
  | _, _, .cons _ t => by rw [List.length_cons, List.length_cons, DqAll.len t]
theorem DqAll.get : ∀ {vs : List V} {ds : List PyData} {i : Nat} {d : PyData}, DqAll K H vs ds → ds[i]? = some d → ∃ v, vs[i]? = some v ∧ Dq K H v d
  | _, _, _, _, .nil, e => by simp at e
  | _, _, 0, _, .cons r _, e => by simp at e; subst e; exact ⟨_, rfl, r⟩
  | _, _, i + 1, d, .cons _ t, e => by
    obtain ⟨x, h1, h2⟩ := DqAll.get (i := i) (d := d) t (by simpa using e)
    exact ⟨x, by simpa using h1, h2⟩
theorem DqAll.get' : ∀ {vs : List V} {ds : List PyData} {i : Nat} {v : V}, DqAll K H vs ds → vs[i]? = some v → ∃ d, ds[i]? = some d ∧ Dq K H v d
  | _, _, _, _, .nil, e => by simp at e
  | _, _, 0, _, .cons r _, e => by simp at e; subst e; exact ⟨_, rfl, r⟩
  | _, _, i + 1, v, .cons _ t, e => by
    obtain ⟨x, h1, h2⟩ := DqAll.get' (i := i) (v := v) t (by simpa using e)
    exact ⟨x, by simpa using h1, h2⟩
theorem DqAll.app : ∀ {vs ws : List V} {ds es : List PyData}, DqAll K H vs ds → DqAll K H ws es → DqAll K H (vs ++ ws) (ds ++ es)
  | _, _, _, _, .nil, s => s
  | _, _, _, _, .cons r t, s => .cons r (DqAll.app t s)
theorem DqAll.take : ∀ {vs : List V} {ds : List PyData} (n : Nat), DqAll K H vs ds → DqAll K H (vs.take n) (ds.take n)
  | _, _, 0, _ => .nil
  | _, _, _ + 1, .nil => .nil
  | _, _, n + 1, .cons r t => .cons r (DqAll.take n t)
theorem DqAll.drop : ∀ {vs : List V} {ds : List PyData} (n : Nat), DqAll K H vs ds → DqAll K H (vs.drop n) (ds.drop n)
  | _, _, 0, r => r
  | _, _, _ + 1, .nil => .nil
  | _, _, n + 1, .cons _ t => DqAll.drop n t
theorem DqAll.set {x : V} {d : PyData} (r : Dq K H x d) : ∀ {vs : List V} {ds : List PyData} (i : Nat), DqAll K H vs ds → DqAll K H (vs.set i x) (ds.set i d)
  | _, _, _, .nil => .nil
  | _, _, 0, .cons _ t => .cons r t
  | _, _, i + 1, .cons q t => .cons q (DqAll.set r i t)
theorem DqAll.one {v : V} {d : PyData} (h : Dq K H v d) : DqAll K H [v] [d] := .cons h .nil
theorem DqAll.rep {v : V} {d : PyData} (h : Dq K H v d) : ∀ n, DqAll K H (List.replicate n v) (List.replicate n d)
  | 0 => .nil
  | n + 1 => by rw [List.replicate_succ, List.replicate_succ]; exact .cons h (DqAll.rep h n)
end

/-! ### slots, cells, the world -/
inductive Sl where
  | no | d (x : PyData) | c (j : Nat) | f (ds : List PyData) | k (keys : List Str) (j : Nat) | x (nm : Str) | o (c : OC) (j : Nat) | g (c : OC) (ds : List PyData) | fn (nm : Str) | lm (P : Option V → Hp → List CA → Prop)

/-- a name that stands for a NoRun with a number: its first code point lies beyond Unicode -/
def codeE (nm : Str) : Option Int := match nm.cps.toList with
  | [a, k] => if a = 2000000 then some (if k % 2 = 0 then ((k / 2 : Nat) : Int) else -((k / 2 : Nat) : Int) - 1) else none
  | _ => none
def nrun (i : Int) : Str := ⟨#[2000000, if 0 ≤ i then 2 * i.toNat else 2 * (-i - 1).toNat + 1]⟩
theorem code_nrun (i : Int) : codeE (nrun i) = some i := by
  show (if 2000000 = 2000000 then some (if (if 0 ≤ i then 2 * i.toNat else 2 * (-i - 1).toNat + 1) % 2 = 0 then (((if 0 ≤ i then 2 * i.toNat else 2 * (-i - 1).toNat + 1) / 2 : Nat) : Int) else -(((if 0 ≤ i then 2 * i.toNat else 2 * (-i - 1).toNat + 1) / 2 : Nat) : Int) - 1) else none) = some i
  rw [if_pos rfl]
  congr 1
  by_cases h : 0 ≤ i
  · rw [if_pos h, if_pos (by omega)]
    omega
  · rw [if_neg h, if_neg (by omega)]
    omega
/-- the class's name; the dict of an error so named -/
def exN (nm : Str) : Str := if (codeE nm).isSome = true then "NoRun" else nm
def ExD (H : Hp) (nm : Str) (d : Option Addr) : Prop := match codeE nm with
  | none => d = none
  | some i => ∃ dd, d = some dd ∧ H dd = some (.xd [("number", .int i)])
theorem exN_plain {nm : Str} (h : codeE nm = none) : exN nm = nm := by
  unfold exN
  rw [h]
  rfl
theorem exD_plain {H : Hp} {nm : Str} {d : Option Addr} (h : codeE nm = none) : ExD H nm d ↔ d = none := by
  unfold ExD
  rw [h]
theorem exN_nrun (i : Int) : exN (nrun i) = "NoRun" := by
  unfold exN
  rw [code_nrun]
  rfl
theorem ExD.mono {H H' : Hp} (s : Same H H') {nm : Str} {d : Option Addr} (h : ExD H nm d) : ExD H' nm d := by
  unfold ExD at h ⊢
  cases q : codeE nm with
  | none => rw [q] at h; exact h
  | some i =>
    rw [q] at h
    obtain ⟨dd, h1, h2⟩ := h
    exact ⟨dd, h1, s _ _ h2⟩
/-- an error that was caught, as it stands -/
def exT (a : Addr) (oe : Obj) : HO := .ext fun h => h.get? a = some oe
def fz (ns : List (Str × Bool)) (vs : List V) : List (Str × V) := (ns.map (·.1)).zip vs
def SlOk (K : Frag) (H : Hp) (as : List CA) (o : Option V) : Sl → Prop
  | .no => True
  | .d x => ∃ v, o = some v ∧ Dq K (hid H as) v x
  | .c j => ∃ a, as[j]? = some ⟨a, .lst⟩ ∧ o = some (.ref a)
  | .k keys j => ∃ a, as[j]? = some ⟨a, .dic keys⟩ ∧ o = some (.ref a)
  | .o c j => ∃ a, as[j]? = some ⟨a, .obj c⟩ ∧ o = some (.ref a)
  | .g c ds => ∃ a dx vs, o = some (.ref a) ∧ hid H as a = some (.ins (He.ga K c.nm) dx (fz c.fs vs)) ∧ vs.length ≤ c.fs.length ∧ DqAll K (hid H as) vs ds
  | .f ds => ∃ a xs, o = some (.ref a) ∧ SqL K (hid H as) a xs ∧ DqAll K (hid H as) xs ds
  | .x nm => ∃ a oe, o = some (.ref a) ∧ hid H as a = some (exT a oe) ∧ (∃ d, Zc (.ref (He.ga K (exN nm))) d oe ∧ ExD (hid H as) nm d) ∧ ∃ vs, oe.data = .fields vs
  | .fn nm => o = some (.ref (He.ga K nm))
  | .lm P => (∃ v, o = some v) ∧ ∀ H', Same (hid H as) (hid H' as) → P o H' as
abbrev Ev (K : Frag) (H : Hp) (as : List CA) (σ : L2.St) (ρ : List Sl) : Prop := Paired (SlOk K H as) σ ρ
def kvz (keys : List Str) (vs : List V) : List (L2.Key × V) := (keys.map Sum.inr).zip vs
def FldOk (K : Frag) (H : Hp) (as : List CA) (own : Bool) (v : V) (d : PyData) : Prop := match own with
  | false => Dq K (hid H as) v d
  | true => ∃ l xs ds, v = .ref l ∧ d = .list ds ∧ H l = some (.lst xs) ∧ DqAll K (hid H as) xs ds
inductive FldAll (K : Frag) (H : Hp) (as : List CA) : List (Str × Bool) → List V → List PyData → Prop
  | nil {ns : List (Str × Bool)} : FldAll K H as ns [] []
  | cons {n : Str × Bool} {ns : List (Str × Bool)} {v : V} {vs : List V} {d : PyData} {ds : List PyData} : FldOk K H as n.2 v d → FldAll K H as ns vs ds → FldAll K H as (n :: ns) (v :: vs) (d :: ds)
/-- a table of code objects: what stands in its place as data (no value has such data); its address, by its maker's name -/
def mgc (nm q : Str) : PyData := .dict [(.str nm, .str q)]
def tabA (K : Frag) (nm : Str) : Addr := (He.cT K (nm, none)).2
def TabH (h : Hp) (t : Option HO) (q : Str) : Prop := ∃ ps : Array Value, t = some (.tbl ps) ∧ TriplesOk ps.toList ∧ ∀ (pos : Pos) (cv : Value), codeAmong pos ps.toList = some cv → ∃ c, cv = .ref c ∧ h c = some (LamX.CodeO c q)
theorem TabH.mono {h h' : Hp} {t : Option HO} {q : Str} (s : Same h h') (x : TabH h t q) : TabH h' t q := by
  obtain ⟨ps, h1, h2, h3⟩ := x
  refine ⟨ps, h1, h2, fun pos cv hc => ?_⟩
  obtain ⟨c, e1, e2⟩ := h3 pos cv hc
  exact ⟨c, e1, s _ _ e2⟩
def CelOk (K : Frag) (H : Hp) (as : List CA) : CA → List PyData → Prop
  | ⟨a, .tab nm q⟩, ds => ds = [mgc nm q] ∧ a = tabA K nm ∧ TabH (hid H as) (H a) q
  | ⟨a, .lst⟩, ds => ∃ xs, H a = some (.lst xs) ∧ DqAll K (hid H as) xs ds
  | ⟨a, .dic keys⟩, ds => ∃ vs, H a = some (.dK (kvz keys vs)) ∧ vs.length = keys.length ∧ DqAll K (hid H as) vs ds
  | ⟨a, .obj c⟩, ds => ∃ dx vs, H a = some (.ins (He.ga K c.nm) dx (fz c.fs vs)) ∧ FldAll K H as c.fs vs ds
theorem refs_cons {n : Str × Bool} {ns : List (Str × Bool)} {v : V} {vs : List V} {b : Addr} (h : b ∈ refsOf ns (fz ns vs)) : b ∈ refsOf (n :: ns) (fz (n :: ns) (v :: vs)) := by
  obtain ⟨x, t⟩ := n
  show b ∈ refsOf ((x, t) :: ns) ((x, v) :: fz ns vs)
  cases t with
  | false => exact h
  | true =>
    cases v with
    | ref l => exact List.mem_cons_of_mem _ h
    | _ => exact h
theorem FldAll.move {K : Frag} {H H' : Hp} {as as' : List CA} (s : Same (hid H as) (hid H' as')) : ∀ {ns : List (Str × Bool)} {vs : List V} {ds : List PyData}, (∀ b ∈ refsOf ns (fz ns vs), ∀ o, H b = some o → H' b = some o) → FldAll K H as ns vs ds → FldAll K H' as' ns vs ds
  | _, _, _, _, .nil => .nil
  | (x, t) :: ns, v :: vs, d :: ds, e, .cons h r => by
    refine .cons ?_ (FldAll.move s (fun b hb => e b (refs_cons hb)) r)
    cases t with
    | false => exact Dq.mono s h
    | true =>
      obtain ⟨l, xs, es, rfl, h2, h3, h4⟩ := h
      exact ⟨l, xs, es, rfl, h2, e l List.mem_cons_self _ h3, h4.mono s⟩
theorem FldAll.al {K : Frag} {H : Hp} {as : List CA} : ∀ {ns : List (Str × Bool)} {vs : List V} {ds : List PyData}, FldAll K H as ns vs ds → ∀ b ∈ refsOf ns (fz ns vs), ∃ o, H b = some o
  | ns, [], _, _, b, hb => by
    have e : fz ns [] = [] := by unfold fz; simp
    rw [e] at hb
    cases ns with
    | nil => cases hb
    | cons n ns => obtain ⟨x, t⟩ := n; cases t <;> cases hb
  | (x, t) :: ns, v :: vs, d :: ds, .cons h r, b, hb => by
    have hb' : b ∈ refsOf ((x, t) :: ns) ((x, v) :: fz ns vs) := hb
    cases t with
    | false => exact FldAll.al r b hb'
    | true =>
      obtain ⟨l, xs, es, rfl, h2, h3, h4⟩ := h
      rcases List.mem_cons.mp hb' with z | z
      · subst z; exact ⟨_, h3⟩
      · exact FldAll.al r b z
theorem FldAll.len {K : Frag} {H : Hp} {as : List CA} : ∀ {ns : List (Str × Bool)} {vs : List V} {ds : List PyData}, FldAll K H as ns vs ds → vs.length = ds.length ∧ vs.length ≤ ns.length
  | _, _, _, .nil => ⟨rfl, Nat.zero_le _⟩
  | _, _, _, .cons _ r => by
    obtain ⟨h1, h2⟩ := FldAll.len r
    rw [List.length_cons, List.length_cons, List.length_cons]
    exact ⟨by omega, by omega⟩
theorem CelOk.move {K : Frag} {H H' : Hp} {as as' : List CA} {f : CA} {ds : List PyData} (s : Same (hid H as) (hid H' as')) (e : ∀ b ∈ adr H f, ∀ o, H b = some o → H' b = some o) (h : CelOk K H as f ds) : CelOk K H' as' f ds := by
  obtain ⟨a, kd⟩ := f
  cases kd with
  | lst => obtain ⟨xs, h1, h2⟩ := h; exact ⟨xs, e _ adr_self _ h1, h2.mono s⟩
  | tab nm q => obtain ⟨h0, h1, ps, h2, h3⟩ := h; exact ⟨h0, h1, TabH.mono s ⟨ps, e _ adr_self _ h2, h3⟩⟩
  | dic keys => obtain ⟨xs, h1, h2, h3⟩ := h; exact ⟨xs, e _ adr_self _ h1, h2, h3.mono s⟩
  | obj c =>
    obtain ⟨dx, vs, h1, h2⟩ := h
    refine ⟨dx, vs, e _ adr_self _ h1, h2.move s fun b hb => e b (List.mem_cons_of_mem _ ?_)⟩
    show b ∈ (ownL H ⟨a, .obj c⟩).getD []
    rw [own_at h1]
    exact hb
theorem CelOk.al {K : Frag} {H : Hp} {as : List CA} {f : CA} {ds : List PyData} (h : CelOk K H as f ds) : ∃ o, H f.a = some o := by
  obtain ⟨a, kd⟩ := f
  cases kd with
  | lst => obtain ⟨xs, h1, h2⟩ := h; exact ⟨_, h1⟩
  | tab nm q => obtain ⟨h0, h1, ps, h2, h3⟩ := h; exact ⟨_, h2⟩
  | dic keys => obtain ⟨xs, h1, h2, h3⟩ := h; exact ⟨_, h1⟩
  | obj c => obtain ⟨dx, vs, h1, h2⟩ := h; exact ⟨_, h1⟩
theorem CelOk.lv {K : Frag} {H : Hp} {as : List CA} {f : CA} {ds : List PyData} (h : CelOk K H as f ds) : (ownL H f).isSome = true := by
  obtain ⟨a, kd⟩ := f
  cases kd with
  | lst => rfl
  | dic keys => rfl
  | tab nm q => rfl
  | obj c => obtain ⟨dx, vs, h1, h2⟩ := h; rw [own_at h1]; rfl
theorem CelOk.als {K : Frag} {H : Hp} {as : List CA} {f : CA} {ds : List PyData} (h : CelOk K H as f ds) : ∀ b ∈ adr H f, ∃ o, H b = some o := fun b hb => by
  rcases List.mem_cons.mp hb with z | z
  · rw [z]; exact h.al
  · obtain ⟨a, kd⟩ := f
    cases kd with
    | lst => cases z
    | dic keys => cases z
    | tab nm q => cases z
    | obj c =>
      obtain ⟨dx, vs, h1, h2⟩ := h
      have z' : b ∈ (ownL H ⟨a, .obj c⟩).getD [] := z
      rw [own_at h1] at z'
      exact h2.al b z'
structure Wk (K : Frag) (H : Hp) (as : List CA) (cs : CS) : Prop where
  nd : (hdl H as).Nodup
  cel : Paired (CelOk K H as) as cs
theorem Wk.nil {K : Frag} {H : Hp} : Wk K H [] [] := ⟨List.nodup_nil, .nil⟩
theorem Wk.lv {K : Frag} {H : Hp} {as : List CA} {cs : CS} (w : Wk K H as cs) : Lv H as := fun i f hi => by
  obtain ⟨_, _, c⟩ := pr_get' w.cel hi
  exact c.lv
theorem Wk.alh {K : Frag} {H : Hp} {as : List CA} {cs : CS} (w : Wk K H as cs) {a : Addr} (h : a ∈ hdl H as) : ∃ o, H a = some o := by
  obtain ⟨i, f, hi, hb⟩ := mem_hdl.mp h
  obtain ⟨_, _, c⟩ := pr_get' w.cel hi
  exact c.als a hb
theorem Wk.al {K : Frag} {H : Hp} {as : List CA} {cs : CS} (w : Wk K H as cs) {a : Addr} (h : a ∈ as) : ∃ o, H a = some o := by
  obtain ⟨i, f, hi, rfl⟩ := at_mem h
  obtain ⟨_, _, c⟩ := pr_get' w.cel hi
  exact c.al

theorem Wk.lst {K : Frag} {H : Hp} {as : List CA} {cs : CS} (w : Wk K H as cs) {j : Nat} {a : Addr} {ds : List PyData} (h : as[j]? = some ⟨a, .lst⟩) (hd : cs[j]? = some ds) : ∃ xs, H a = some (.lst xs) ∧ DqAll K (hid H as) xs ds := by
  obtain ⟨f, h1, h2⟩ := pr_get w.cel hd
  rw [h] at h1
  cases h1
  exact h2
theorem Wk.lst' {K : Frag} {H : Hp} {as : List CA} {cs : CS} (w : Wk K H as cs) {j : Nat} {a : Addr} (h : as[j]? = some ⟨a, .lst⟩) : ∃ ds, cs[j]? = some ds ∧ ∃ xs, H a = some (.lst xs) ∧ DqAll K (hid H as) xs ds := by
  obtain ⟨ds, h1, h2⟩ := pr_get' w.cel h
  exact ⟨ds, h1, h2⟩
theorem Wk.dic {K : Frag} {H : Hp} {as : List CA} {cs : CS} (w : Wk K H as cs) {j : Nat} {a : Addr} {keys : List Str} {ds : List PyData} (h : as[j]? = some ⟨a, .dic keys⟩) (hd : cs[j]? = some ds) : ∃ vs, H a = some (.dK (kvz keys vs)) ∧ vs.length = keys.length ∧ DqAll K (hid H as) vs ds := by
  obtain ⟨f, h1, h2⟩ := pr_get w.cel hd
  rw [h] at h1
  cases h1
  exact h2
theorem Wk.obj {K : Frag} {H : Hp} {as : List CA} {cs : CS} (w : Wk K H as cs) {j : Nat} {a : Addr} {c : OC} {ds : List PyData} (h : as[j]? = some ⟨a, .obj c⟩) (hd : cs[j]? = some ds) : ∃ dx vs, H a = some (.ins (He.ga K c.nm) dx (fz c.fs vs)) ∧ FldAll K H as c.fs vs ds := by
  obtain ⟨f, h1, h2⟩ := pr_get w.cel hd
  rw [h] at h1
  cases h1
  exact h2
/-- all but the cells stays; objects own what they owned, or what is new -/
structure Ext (as : List CA) (H H' : Hp) : Prop where
  sm : ∀ b o, Vs H as b → H b = some o → H' b = some o
  dm : ∀ b, H' b = none → H b = none
  ev : ∀ (i : Nat) (f : CA), as[i]? = some f → (ownL H f).isSome = true → (ownL H' f).isSome = true ∧ ∀ b ∈ adr H' f, b ∈ adr H f ∨ H b = none
theorem Ext.refl {as : List CA} {H : Hp} : Ext as H H := ⟨fun _ _ _ e => e, fun _ e => e, fun _ _ _ h => ⟨h, fun _ q => .inl q⟩⟩
theorem Same.dm {H H' : Hp} (s : Same H H') : ∀ b, H' b = none → H b = none := fun b h => by
  cases q : H b with
  | none => rfl
  | some o => rw [s b o q] at h; cases h
theorem own_same {H H' : Hp} (s : Same H H') {f : CA} (h : (ownL H f).isSome = true) : ownL H' f = ownL H f := by
  obtain ⟨a, kd⟩ := f
  cases kd with
  | lst => rfl
  | dic ks => rfl
  | tab nm q => rfl
  | obj c =>
    cases q : H a with
    | none => have h' : (ownO c (H a)).isSome = true := h; rw [q] at h'; cases h'
    | some o => exact ownL_eq (f := ⟨a, .obj c⟩) (by rw [s a o q, q])
theorem adr_same {H H' : Hp} (s : Same H H') {f : CA} (h : (ownL H f).isSome = true) : adr H' f = adr H f := by unfold adr; rw [own_same s h]
theorem Ext.of {as : List CA} {H H' : Hp} (s : Same H H') : Ext as H H' := ⟨fun b o _ e => s b o e, Same.dm s, fun i f _ h => ⟨by rw [own_same s h]; exact h, fun b hb => .inl (by rw [← adr_same s h]; exact hb)⟩⟩
theorem Ext.lv {as : List CA} {H H' : Hp} (e : Ext as H H') (h : Lv H as) : Lv H' as := fun i f q => (e.ev i f q (h i f q)).1
theorem Ext.vs {as : List CA} {H H' : Hp} (e : Ext as H H') {b : Addr} {o : HO} (h : Vs H as b) (q : H b = some o) : Vs H' as b := ⟨e.lv h.1, fun z => by
  obtain ⟨i, f, h1, h2⟩ := mem_hdl.mp z
  rcases (e.ev i f h1 (h.1 i f h1)).2 b h2 with g | g
  · exact h.2 (mem_hdl.mpr ⟨i, f, h1, g⟩)
  · rw [q] at g; cases g⟩
theorem Ext.trans {as : List CA} {H H1 H2 : Hp} (a : Ext as H H1) (b : Ext as H1 H2) : Ext as H H2 := ⟨fun c o h e => b.sm c o (a.vs h e) (a.sm c o h e), fun c h => a.dm c (b.dm c h), fun i f h l => by
  obtain ⟨l1, h1⟩ := a.ev i f h l
  obtain ⟨l2, h2⟩ := b.ev i f h l1
  exact ⟨l2, fun c hc => (h2 c hc).elim (fun g => h1 c g) (fun g => .inr (a.dm c g))⟩⟩
theorem Ext.hid {as : List CA} {H H' : Hp} (e : Ext as H H') : Same (hid H as) (hid H' as) := fun b o h => by
  obtain ⟨h1, h2⟩ := hid_of h
  rw [hid_out (e.vs h1 h2)]
  exact e.sm b o h1 h2
theorem Same.new {H : Hp} {p : Addr} {o : HO} (h : H p = none) : Same H (upd H p o) := fun a u e => by
  rw [upd_ne (ne_of_none e h)]
  exact e
section
variable {K : Frag} {H H' : Hp} {as : List CA} {cs : CS} {σ : L2.St} {ρ : List Sl}
theorem SlOk.ext {o : Option V} {s : Sl} (e : Same (hid H as) (hid H' as)) (h : SlOk K H as o s) : SlOk K H' as o s := by
  cases s with
  | no => trivial
  | d x => obtain ⟨v, h1, h2⟩ := h; exact ⟨v, h1, h2.mono e⟩
  | c j => exact h
  | k keys j => exact h
  | o c j => exact h
  | g c es => obtain ⟨a, dx, vs, h1, h2, h3, h4⟩ := h; exact ⟨a, dx, vs, h1, e _ _ h2, h3, h4.mono e⟩
  | x nm => obtain ⟨a, oe, h1, h2, ⟨d, h3, h4⟩, h5⟩ := h; exact ⟨a, oe, h1, e _ _ h2, ⟨d, h3, h4.mono e⟩, h5⟩
  | fn nm => exact h
  | lm P => exact ⟨h.1, fun H2 s => h.2 H2 fun b o q => s b o (e b o q)⟩
  | f ds => obtain ⟨a, xs, h1, h2, h3⟩ := h; exact ⟨a, xs, h1, e.seq h2, h3.mono e⟩
theorem Ev.ext (e : Ext as H H') (h : Ev K H as σ ρ) : Ev K H' as σ ρ := pr_map (fun _ _ q => q.ext e.hid) h
theorem hdl_same (l : Lv H as) (s : Same H H') : hdl H' as = hdl H as := hdl_eq fun i f q => adr_same s (l i f q)
theorem adr_upd {p : Addr} {o : HO} {f : CA} (h : f.a ≠ p) : adr (upd H p o) f = adr H f := adr_eq (by rw [upd_ne h])
theorem own_upd {p : Addr} {o : HO} {f : CA} (h : f.a ≠ p) : ownL (upd H p o) f = ownL H f := ownL_eq (by rw [upd_ne h])
theorem at_ne {p : Addr} (h : p ∉ as) {i : Nat} {f : CA} (q : as[i]? = some f) : f.a ≠ p := fun z => h (by rw [← z]; exact mem_at q)
theorem Lv.upd {p : Addr} {o : HO} (l : Lv H as) (h : p ∉ as) : Lv (upd H p o) as := fun i f q => by rw [own_upd (at_ne h q)]; exact l i f q
theorem hdl_upd {p : Addr} {o : HO} (h : p ∉ as) : hdl (upd H p o) as = hdl H as := hdl_eq fun i f q => adr_upd (at_ne h q)
theorem Vs.upd {p b : Addr} {o : HO} (v : Vs H as b) (h : p ∉ as) : Vs (upd H p o) as b := ⟨v.1.upd h, by rw [hdl_upd h]; exact v.2⟩
/-- new objects beside -/
theorem Wk.grow (w : Wk K H as cs) (s : Same H H') : Wk K H' as cs :=
  ⟨by rw [hdl_same w.lv s]; exact w.nd, pr_map (fun f ds q => q.move (Ext.of (as := as) s).hid fun b _ o h => s _ _ h) w.cel⟩
/-- a new object is none of the cells -/
theorem Wk.fresh (w : Wk K H as cs) {p : Addr} (h : H p = none) : Vs H as p := ⟨w.lv, fun q => by
  obtain ⟨o, e⟩ := w.alh q
  rw [h] at e; cases e⟩
end

/-! ### readings over data -/
abbrev DE := List Sl → CS → XD → (PyData → CS → Prop) → Prop
abbrev DT := List Sl → CS → XD → (Bool → CS → Prop) → Prop
abbrev DA := List Sl → CS → XD → (List Sl → CS → Prop) → Prop
/-- what is wanted of an exception, where one stands -/
def EK (K : Frag) (E : XK) (Ed : XD) (as : List CA) (H : Hp) : Prop := ∀ C H' cs', Ext as H H' → Wk K H' as cs' → Ed C cs' → ∀ d, ExD H' C d → E (.ref (He.ga K (exN C))) d H'
theorem EK.ext {K : Frag} {E : XK} {Ed : XD} {as : List CA} {H H' : Hp} (h : EK K E Ed as H) (e : Ext as H H') : EK K E Ed as H' := fun C H2 cs' a b c => h C H2 cs' (e.trans a) b c

def SE (K : Frag) (E : XK) (t : TE) (d : DE) : Prop := ∀ (as : List CA) (σ : L2.St) (H : Hp) (ρ : List Sl) (cs : CS) (Ed : XD) (Qd : PyData → CS → Prop) (Q : VK),
  Wk K H as cs → Ev K H as σ ρ → EK K E Ed as H → d ρ cs Ed Qd → (∀ v H' x cs', Ext as H H' → Wk K H' as cs' → Dq K (hid H' as) v x → Qd x cs' → Q v H') → t σ H Q
def ST (K : Frag) (E : XK) (t : TT) (d : DT) : Prop := ∀ (as : List CA) (σ : L2.St) (H : Hp) (ρ : List Sl) (cs : CS) (Ed : XD) (Qd : Bool → CS → Prop) (Q : Bool → Hp → Prop),
  Wk K H as cs → Ev K H as σ ρ → EK K E Ed as H → d ρ cs Ed Qd → (∀ b H' cs', Ext as H H' → Wk K H' as cs' → Qd b cs' → Q b H') → t σ H Q
/-- arguments: data, or cells -/
abbrev Ar (K : Frag) (H : Hp) (as : List CA) (vs : List V) (ss : List Sl) : Prop := Paired (fun v s => SlOk K H as (some v) s ∧ s ≠ .no) vs ss
def SA (K : Frag) (E : XK) (t : TA) (d : DA) : Prop := ∀ (as : List CA) (σ : L2.St) (H : Hp) (ρ : List Sl) (cs : CS) (Ed : XD) (Qd : List Sl → CS → Prop) (Q : List V → Hp → Prop),
  Wk K H as cs → Ev K H as σ ρ → EK K E Ed as H → d ρ cs Ed Qd → (∀ vs H' ss cs', Ext as H H' → Wk K H' as cs' → Ar K H' as vs ss → Qd ss cs' → Q vs H') → t σ H Q

structure QE (X : Cx) (E : XK) (e : Expr) (d : DE) : Prop where
  ex : ∃ t, PE X e t ∧ SE X.K E t d
structure QT (X : Cx) (E : XK) (e : Expr) (d : DT) : Prop where
  ex : ∃ t, PT X e t ∧ ST X.K E t d
structure QW (X : Cx) (E : XK) (e : Expr) (d : DT) : Prop where
  ex : ∃ t, PW X e t ∧ ST X.K E t d
structure QA (X : Cx) (E : XK) (es : List Expr) (d : DA) : Prop where
  ex : ∃ t, PA X es t ∧ SA X.K E t d

section
variable {X : Cx} {E : XK}
/-! ### names, constants -/
def dVar (i : Nat) : DE := fun ρ cs _ Q => match ρ[i]? with
  | some (.d x) => Q x cs
  | _ => False
theorem se_var {K : Frag} (i : Nat) : SE K E (tVar i) (dVar i) := fun as σ H ρ cs Ed Qd Q w e ek h k => by
  unfold dVar at h
  cases q : ρ[i]? with
  | none => rw [q] at h; exact h.elim
  | some s =>
    rw [q] at h
    obtain ⟨o, ho, hs⟩ := pr_get e q
    cases s with
    | no => exact h.elim
    | c j => exact h.elim
    | k keys j => exact h.elim
    | o c j => exact h.elim
    | g c es => exact h.elim
    | x nm => exact h.elim
    | fn nm => exact h.elim
    | lm P => exact h.elim
    | f ds => exact h.elim
    | d x =>
      obtain ⟨v, rfl, hv⟩ := hs
      exact ⟨v, ho, k v H x cs Ext.refl w hv h⟩
theorem q_var (i : Nat) {x : Str} {pos : Pos} (hN : X.N[i]? = some x := by rfl) (hv : Vis X.env.scope x := by first | exact Or.inl rfl | exact Or.inr (Or.inl rfl) | exact Or.inr (Or.inr rfl)) (hd : (x == ("__debug__" : Str)) = false := by decide)
    (hcd : (x == ("__classdict__" : Str)) = false := by decide) : QE X E (.Name x pos) (dVar i) := ⟨_, pe_var hN hv hd hcd, se_var i⟩
def dC (x : PyData) : DE := fun _ cs _ Q => Q x cs
theorem se_c {K : Frag} {v : V} {x : PyData} (h : ∀ H, Dq K H v x) : SE K E (tC v) (dC x) := fun as σ H ρ cs Ed Qd Q w e ek hq k => k v H x cs Ext.refl w (h _) hq
theorem q_int {i : Int} {j : Nat} {pos : Pos} : QE X E (.Constant (.int i) j pos) (dC (.int i)) := ⟨_, pe_int, se_c fun _ => .int i⟩
theorem q_bl {i : Bool} {j : Nat} {pos : Pos} : QE X E (.Constant (.bool i) j pos) (dC (.bool i)) := ⟨_, pe_bl, se_c fun _ => .bl i⟩
theorem q_non {j : Nat} {pos : Pos} : QE X E (.Constant .none j pos) (dC .none) := ⟨_, pe_non, se_c fun _ => .non⟩
theorem q_str {i : Str} {j : Nat} {pos : Pos} : QE X E (.Constant (.str i) j pos) (dC (.str i)) := ⟨_, pe_str, se_c fun _ => .str i⟩
theorem q_globI {x : Str} {i : Int} {pos : Pos} (hm : ∃ t, X.mg x = some (.int i t)) (hg : Gl X x := by rfl) (hd : (x == ("__debug__" : Str)) = false := by decide) : QE X E (.Name x pos) (dC (.int i)) := by
  obtain ⟨t, h⟩ := hm
  exact ⟨_, pe_glob hg h (v := .int i) ⟨t, rfl⟩ hd, se_c fun _ => .int i⟩

/-! ### operators -/
abbrev R2D := PyData → PyData → (PyData → Prop) → Prop
def SR (K : Frag) (r : R2) (rd : R2D) : Prop := ∀ (as : List CA) (H : Hp) (cs : CS) (v u : V) (x y : PyData) (Qd : PyData → Prop) (Q : VK), Wk K H as cs → Dq K (hid H as) v x → Dq K (hid H as) u y → rd x y Qd →
  (∀ w H' z, Same H H' → Dq K (hid H' as) w z → Qd z → Q w H') → r v u H Q
def dOp (rd : R2D) (da db : DE) : DE := fun ρ cs Ed Q => da ρ cs Ed fun x cs1 => db ρ cs1 Ed fun y cs2 => rd x y fun z => Q z cs2
theorem se_op {K : Frag} {r : R2} {rd : R2D} {ta tb : TE} {da db : DE} (ha : SE K E ta da) (hb : SE K E tb db) (hr : SR K r rd) : SE K E (tOp r ta tb) (dOp rd da db) := fun as σ H ρ cs Ed Qd Q w e ek h k =>
  ha as σ H ρ cs Ed _ _ w e ek h fun v H1 x cs1 e1 w1 d1 h1 => hb as σ H1 ρ cs1 Ed _ _ w1 (e.ext e1) (ek.ext e1) h1 fun u H2 y cs2 e2 w2 d2 h2 =>
    hr as H2 cs2 v u x y _ _ w2 (d1.mono e2.hid) d2 h2 fun z H3 zz s3 d3 h3 => k z H3 zz cs2 ((e1.trans e2).trans (Ext.of s3)) (w2.grow s3) d3 h3
theorem q_bin {a b : Expr} {op : Operator} {pos : Pos} {r : R2} {rd : R2D} {da db : DE} (ho : OpR X (binaryOp op) r) (hr : SR X.K r rd) (ha : QE X E a da) (hb : QE X E b db) : QE X E (.BinOp a op b pos) (dOp rd da db) := by
  obtain ⟨ta, a1, a2⟩ := ha.ex
  obtain ⟨tb, b1, b2⟩ := hb.ex
  exact ⟨_, pe_op ho a1 b1, se_op a2 b2 hr⟩
theorem q_cmp {a b : Expr} {op : CmpOp} {pos : Pos} {r : R2} {rd : R2D} {da db : DE} (ho : OpR X (compareOp op) r) (hr : SR X.K r rd) (ha : QE X E a da) (hb : QE X E b db) (hm : behindInMarks op b = false := by first | exact nomark _ | rfl) :
    QE X E (.Compare a [op] [b] pos) (dOp rd da db) := by
  obtain ⟨ta, a1, a2⟩ := ha.ex
  obtain ⟨tb, b1, b2⟩ := hb.ex
  exact ⟨_, pe_cmpR ho a1 b1 hm, se_op a2 b2 hr⟩
/-- two ints, under C -/
def dI (C : Int → Int → Prop) (g : Int → Int → PyData) : R2D := fun x y Q => match x, y with
  | .int i, .int j => C i j ∧ Q (g i j)
  | _, _ => False
def dI0 (g : Int → Int → PyData) : R2D := fun x y Q => match x, y with
  | .int i, .int j => Q (g i j)
  | _, _ => False
theorem sr_I {K : Frag} {C : Int → Int → Prop} {g : Int → Int → V} {gd : Int → Int → PyData} (hg : ∀ H i j, Dq K H (g i j) (gd i j)) : SR K (rI C g) (dI C gd) := fun as H cs v u x y Qd Q w hx hy h k => by
  cases hx <;> cases hy <;> try exact h.elim
  exact ⟨_, _, rfl, rfl, h.1, k _ H _ (Same.refl H) (hg _ _ _) h.2⟩
theorem sr_I0 {K : Frag} {g : Int → Int → V} {gd : Int → Int → PyData} (hg : ∀ H i j, Dq K H (g i j) (gd i j)) : SR K (rI0 g) (dI0 gd) := fun as H cs v u x y Qd Q w hx hy h k => by
  cases hx <;> cases hy <;> try exact h.elim
  exact ⟨_, _, rfl, rfl, k _ H _ (Same.refl H) (hg _ _ _) h⟩
end
end Kp

namespace Kp
open PySem PySem.Spec PyProof.Rows L2
section
variable {K : Frag} {E : XK} {X : Cx}

/-! ### by places, cut -/
theorem DqAll.at_ {H : Hp} {xs : List V} {ds : List PyData} {i : Int} {d : PyData} (h : DqAll K H xs ds) (e : atI ds i = some d) : ∃ v, atI xs i = some v ∧ Dq K H v d := by
  unfold atI at e ⊢
  rw [h.len]
  cases q : ixN ds.length i with
  | none => rw [q] at e; cases e
  | some j =>
    rw [q] at e
    obtain ⟨v, h1, h2⟩ := h.get (show ds[j]? = some d from e)
    exact ⟨v, h1, h2⟩
def cutD (ds : List PyData) (lo hi : Option Int) : List PyData := (ds.drop (HT.sIx ds.length 0 lo)).take (HT.sIx ds.length ds.length hi - HT.sIx ds.length 0 lo)
theorem DqAll.cut {H : Hp} {xs : List V} {ds : List PyData} (h : DqAll K H xs ds) (lo hi : Option Int) : DqAll K H (cutV xs lo hi) (cutD ds lo hi) := by
  unfold cutV cutD
  rw [h.len]
  exact (h.drop _).take _
theorem hidL {H : Hp} {as : List CA} {a : Addr} {xs : List V} (h : SqL K (hid H as) a xs) : SqL K H a xs := (hid_sub H as).seq h
theorem hidT {H : Hp} {as : List CA} {a : Addr} {xs : List V} (h : SqT K (hid H as) a xs) : SqT K H a xs := same_t (hid_sub H as) h
theorem hid1 {H : Hp} {as : List CA} {a : Addr} {o : HO} (h : hid H as a = some o) : H a = some o := (hid_of h).2
/-- a new object is seen -/
theorem hid_new {H : Hp} {as : List CA} {p : Addr} {o : HO} (h : Vs H as p) : hid (upd H p o) as p = some o := by rw [hid_out (h.upd h.out)]; exact upd_same
theorem new_mono {H : Hp} {as : List CA} {p : Addr} {o : HO} (h : H p = none) : Same (hid H as) (hid (upd H p o) as) := (Ext.of (as := as) (Same.new h)).hid

/-- what may be indexed, measured, cut: a slot's items -/
def itemsOf (cs : CS) : Option Sl → Option (List PyData)
  | some (.d (.tuple ds)) => some ds
  | some (.d (.list ds)) => some ds
  | some (.f ds) => some ds
  | some (.c j) => cs[j]?
  | _ => none
/-- the slot's object, as it stands -/
theorem slot_items {as : List CA} {σ : L2.St} {H : Hp} {ρ : List Sl} {cs : CS} {i : Nat} {ds : List PyData} (w : Wk K H as cs) (e : Ev K H as σ ρ) (h : itemsOf cs ρ[i]? = some ds) :
    ∃ a xs, σ[i]? = some (some (.ref a)) ∧ (SqL K H a xs ∨ SqT K (hid H as) a xs) ∧ DqAll K (hid H as) xs ds := by
  cases q : ρ[i]? with
  | none => rw [q] at h; cases h
  | some s =>
    rw [q] at h
    obtain ⟨o, ho, hs⟩ := pr_get e q
    cases s with
    | no => cases h
    | k keys j => cases h
    | o c j => cases h
    | g c es => cases h
    | x _ => cases h
    | fn _ => cases h
    | lm _ => cases h
    | d x =>
      obtain ⟨v, rfl, hv⟩ := hs
      cases hv with
      | lst h1 h2 =>
        have e2 := Option.some.inj (show some _ = some ds from h)
        subst e2
        exact ⟨_, _, ho, .inl (SqL.of (hid1 h1)), h2⟩
      | tup h1 h2 =>
        have e2 := Option.some.inj (show some _ = some ds from h)
        subst e2
        exact ⟨_, _, ho, .inr h1, h2⟩
      | _ => cases h
    | f es =>
      obtain ⟨a, xs, rfl, h1, h2⟩ := hs
      have e2 := Option.some.inj (show some es = some ds from h)
      subst e2
      exact ⟨a, xs, ho, .inl (hidL h1), h2⟩
    | c j =>
      obtain ⟨a, h1, rfl⟩ := hs
      obtain ⟨xs, h3, h4⟩ := w.lst h1 (show cs[j]? = some ds from h)
      exact ⟨a, xs, ho, .inl (SqL.of h3), h4⟩
/-- the same value behind more steps -/
theorem slot_same {as : List CA} {σ : L2.St} {H : Hp} {ρ : List Sl} {cs : CS} {i : Nat} {ds : List PyData} {v : V} (w : Wk K H as cs) (e : Ev K H as σ ρ) (hv : σ[i]? = some (some v)) (h : itemsOf cs ρ[i]? = some ds) :
    ∃ a xs, v = .ref a ∧ (SqL K H a xs ∨ SqT K (hid H as) a xs) ∧ DqAll K (hid H as) xs ds := by
  obtain ⟨a, xs, h1, h2, h3⟩ := slot_items w e h
  rw [hv] at h1
  exact ⟨a, xs, Option.some.inj (Option.some.inj h1), h2, h3⟩

abbrev rIx2 (K : Frag) : R2 := fun x y H Q => rIxL K x y H Q ∨ rIxT K x y H Q
theorem ix2 : IxR X (rIx2 X.K) := ix_list.or ix_tup
theorem rIx2_of {H : Hp} {a : Addr} {xs : List V} {i : Int} {v : V} {Q : VK} (h : SqL K H a xs ∨ SqT K H a xs) (e : atI xs i = some v) (q : Q v H) : rIx2 K (.ref a) (.int i) H Q := by
  rcases h with h | h
  · exact .inl ⟨a, xs, i, v, rfl, rfl, h, e, q⟩
  · exact .inr ⟨a, xs, i, v, rfl, rfl, h, e, q⟩
/-- x[e], x a name -/
def dIxV (i : Nat) (db : DE) : DE := fun ρ cs Ed Q => (itemsOf cs ρ[i]?).isSome = true ∧ db ρ cs Ed fun y cs2 => match y with
  | .int n => ∃ ds d, itemsOf cs2 ρ[i]? = some ds ∧ atI ds n = some d ∧ Q d cs2
  | _ => False
theorem se_ixV {tb : TE} {db : DE} (i : Nat) (hb : SE K E tb db) : SE K E (tOp (rIx2 K) (tVar i) tb) (dIxV i db) := fun as σ H ρ cs Ed Qd Q w e ek h k => by
  obtain ⟨hs, h⟩ := h
  obtain ⟨ds0, hs0⟩ := Option.isSome_iff_exists.mp hs
  obtain ⟨a, _, hv, _, _⟩ := slot_items w e hs0
  refine ⟨_, hv, hb as σ H ρ cs Ed _ _ w e ek h fun u H2 y cs2 e2 w2 d2 h2 => ?_⟩
  cases d2 <;> try exact h2.elim
  obtain ⟨ds, d, h3, h4, h5⟩ := h2
  obtain ⟨a', xs, q1, q2, q3⟩ := slot_same w2 (e.ext e2) hv h3
  cases q1
  obtain ⟨v, q4, q5⟩ := q3.at_ h4
  exact rIx2_of (q2.imp_right hidT) q4 (k v H2 d cs2 e2 w2 q5 h5)
theorem q_ixV {a b : Expr} {pos : Pos} {db : DE} (i : Nat) (ha : PE X a (tVar i)) (hb : QE X E b db) (hs : PlainIx b := by exact fun _ _ => rfl) : QE X E (.Subscript a b pos) (dIxV i db) := by
  obtain ⟨tb, b1, b2⟩ := hb.ex
  exact ⟨_, pe_ix ix2 ha b1 hs, se_ixV i b2⟩
/-- e[e'] -/
def dIx (da db : DE) : DE := fun ρ cs Ed Q => da ρ cs Ed fun x cs1 => db ρ cs1 Ed fun y cs2 => match x, y with
  | .tuple ds, .int n => ∃ d, atI ds n = some d ∧ Q d cs2
  | .list ds, .int n => ∃ d, atI ds n = some d ∧ Q d cs2
  | _, _ => False
theorem se_ix {ta tb : TE} {da db : DE} (ha : SE K E ta da) (hb : SE K E tb db) : SE K E (tOp (rIx2 K) ta tb) (dIx da db) := fun as σ H ρ cs Ed Qd Q w e ek h k =>
  ha as σ H ρ cs Ed _ _ w e ek h fun v H1 x cs1 e1 w1 d1 h1 => hb as σ H1 ρ cs1 Ed _ _ w1 (e.ext e1) (ek.ext e1) h1 fun u H2 y cs2 e2 w2 d2 h2 => by
    have d1' := d1.mono e2.hid
    cases d1' with
    | lst g1 g2 =>
      cases d2 <;> try exact h2.elim
      obtain ⟨d, h4, h5⟩ := h2
      obtain ⟨z, q4, q5⟩ := g2.at_ h4
      exact rIx2_of (.inl (SqL.of (hid1 g1))) q4 (k z H2 d cs2 (e1.trans e2) w2 q5 h5)
    | tup g1 g2 =>
      cases d2 <;> try exact h2.elim
      obtain ⟨d, h4, h5⟩ := h2
      obtain ⟨z, q4, q5⟩ := g2.at_ h4
      exact rIx2_of (.inr (hidT g1)) q4 (k z H2 d cs2 (e1.trans e2) w2 q5 h5)
    | _ => exact h2.elim
theorem q_ix {a b : Expr} {pos : Pos} {da db : DE} (ha : QE X E a da) (hb : QE X E b db) (hs : PlainIx b := by exact fun _ _ => rfl) : QE X E (.Subscript a b pos) (dIx da db) := by
  obtain ⟨ta, a1, a2⟩ := ha.ex
  obtain ⟨tb, b1, b2⟩ := hb.ex
  exact ⟨_, pe_ix ix2 a1 b1 hs, se_ix a2 b2⟩

/-! ### slices -/
abbrev DO := List Sl → CS → XD → (Option Int → CS → Prop) → Prop
def SO (K : Frag) (E : XK) (t : TO) (d : DO) : Prop := ∀ (as : List CA) (σ : L2.St) (H : Hp) (ρ : List Sl) (cs : CS) (Ed : XD) (Qd : Option Int → CS → Prop) (Q : Option Int → Hp → Prop),
  Wk K H as cs → Ev K H as σ ρ → EK K E Ed as H → d ρ cs Ed Qd → (∀ o H' cs', Ext as H H' → Wk K H' as cs' → Qd o cs' → Q o H') → t σ H Q
structure QO (X : Cx) (E : XK) (e : Option Expr) (d : DO) : Prop where
  ex : ∃ t, PO X e t ∧ SO X.K E t d
def dNo : DO := fun _ cs _ Q => Q none cs
def dPart (da : DE) : DO := fun ρ cs Ed Q => da ρ cs Ed fun x cs1 => match x with
  | .int i => Q (some i) cs1
  | _ => False
theorem q_no : QO X E none dNo := ⟨_, po_none, fun as σ H ρ cs Ed Qd Q w e ek h k => k none H cs Ext.refl w h⟩
theorem q_part {a : Expr} {da : DE} (ha : QE X E a da) : QO X E (some a) (dPart da) := by
  obtain ⟨ta, a1, a2⟩ := ha.ex
  refine ⟨_, po_some a1, fun as σ H ρ cs Ed Qd Q w e ek h k => a2 as σ H ρ cs Ed _ _ w e ek h fun v H1 x cs1 e1 w1 d1 h1 => ?_⟩
  cases d1 <;> try exact h1.elim
  exact ⟨_, rfl, k _ H1 cs1 e1 w1 h1⟩
abbrev rSl2 (K : Frag) : V → Option Int → Option Int → Hp → VK → Prop := fun x lo hi H Q => rSlL K x lo hi H Q ∨ rSlA K x lo hi H Q
theorem sl2 : SlR X (rSl2 X.K) := sl_list.or sl_tupA
/-- x[lo:hi], x a name: a new list, a tuple -/
def cutS (cs : CS) (s : Option Sl) (lo hi : Option Int) : Option PyData := match s with
  | some (.d (.tuple ds)) => some (.tuple (cutD ds lo hi))
  | some (.d (.list ds)) => some (.list (cutD ds lo hi))
  | some (.f ds) => some (.list (cutD ds lo hi))
  | some (.c j) => (cs[j]?).map fun ds => .list (cutD ds lo hi)
  | _ => none
theorem cut_whole {ds : List PyData} {lo hi : Option Int} (h : HT.sIx ds.length 0 lo = 0 ∧ HT.sIx ds.length ds.length hi = ds.length) : cutD ds lo hi = ds := by
  unfold cutD
  rw [h.1, h.2]
  simp
theorem cutT_ok {as : List CA} {H : Hp} {cs : CS} {a : Addr} {xs : List V} {ds : List PyData} {lo hi : Option Int} {Q : VK} (w : Wk K H as cs) (h1 : SqT K (hid H as) a xs) (h2 : DqAll K (hid H as) xs ds)
    (k : ∀ v H', Same H H' → Dq K (hid H' as) v (.tuple (cutD ds lo hi)) → Q v H') : rSl2 K (.ref a) lo hi H Q := by
  refine .inr ⟨a, xs, rfl, hidT h1, fun z => ?_, fun z p hp => ?_⟩
  · rw [h2.len] at z
    exact k _ H (Same.refl H) (by rw [cut_whole z]; exact .tup h1 h2)
  · exact k _ _ (Same.new hp) (.tup (SqT.of (hid_new (w.fresh hp))) ((h2.cut lo hi).mono (new_mono hp)))
theorem cutL_ok {as : List CA} {H : Hp} {cs : CS} {a : Addr} {xs : List V} {ds : List PyData} {lo hi : Option Int} {Q : VK} (w : Wk K H as cs) (h1 : SqL K H a xs) (h2 : DqAll K (hid H as) xs ds)
    (k : ∀ v H', Same H H' → Dq K (hid H' as) v (.list (cutD ds lo hi)) → Q v H') : rSl2 K (.ref a) lo hi H Q :=
  .inl ⟨a, xs, rfl, h1, fun p hp => k _ _ (Same.new hp) (.lst (hid_new (w.fresh hp)) ((h2.cut lo hi).mono (new_mono hp)))⟩
def dSlV (i : Nat) (dl dh : DO) : DE := fun ρ cs Ed Q => (itemsOf cs ρ[i]?).isSome = true ∧ dl ρ cs Ed fun lo cs1 => dh ρ cs1 Ed fun hi cs2 => ∃ z, cutS cs2 ρ[i]? lo hi = some z ∧ Q z cs2
theorem se_slV {tl th : TO} {dl dh : DO} (i : Nat) (hl : SO K E tl dl) (hh : SO K E th dh) : SE K E (tSl (rSl2 K) (tVar i) tl th) (dSlV i dl dh) := fun as σ H ρ cs Ed Qd Q w e ek h k => by
  obtain ⟨hs, h⟩ := h
  obtain ⟨ds0, hs0⟩ := Option.isSome_iff_exists.mp hs
  obtain ⟨a, _, hv, _, _⟩ := slot_items w e hs0
  refine ⟨_, hv, hl as σ H ρ cs Ed _ _ w e ek h fun lo H1 cs1 e1 w1 h1 => hh as σ H1 ρ cs1 Ed _ _ w1 (e.ext e1) (ek.ext e1) h1 fun hi H2 cs2 e2 w2 h2 => ?_⟩
  obtain ⟨z, hz, hq⟩ := h2
  have ev2 := (e.ext e1).ext e2
  have go : ∀ v H', Same H2 H' → Dq K (hid H' as) v z → Q v H' := fun v H' s d => k v H' z cs2 ((e1.trans e2).trans (Ext.of s)) (w2.grow s) d hq
  cases q : ρ[i]? with
  | none => rw [q] at hz; cases hz
  | some s =>
    rw [q] at hz
    obtain ⟨o, ho, hss⟩ := pr_get ev2 q
    rw [hv] at ho
    cases ho
    cases s with
    | no => cases hz
    | k keys j => cases hz
    | o c j => cases hz
    | g c es => cases hz
    | x _ => cases hz
    | fn _ => cases hz
    | lm _ => cases hz
    | d x =>
      obtain ⟨v, ev, hd⟩ := hss
      cases ev
      cases hd with
      | lst g1 g2 =>
        cases (show some _ = some z from hz)
        exact cutL_ok w2 (SqL.of (hid1 g1)) g2 go
      | tup g1 g2 =>
        cases (show some _ = some z from hz)
        exact cutT_ok w2 g1 g2 go
      | _ => cases hz
    | f es =>
      obtain ⟨a', xs, ea, g1, g2⟩ := hss
      cases ea
      cases (show some _ = some z from hz)
      exact cutL_ok w2 (hidL g1) g2 go
    | c j =>
      obtain ⟨a', g1, ea⟩ := hss
      cases ea
      cases q3 : cs2[j]? with
      | none =>
        have hz' : (cs2[j]?).map (fun ds => PyData.list (cutD ds lo hi)) = some z := hz
        rw [q3] at hz'
        cases hz'
      | some ds =>
        have hz' : (cs2[j]?).map (fun ds => PyData.list (cutD ds lo hi)) = some z := hz
        rw [q3] at hz'
        cases hz'
        obtain ⟨xs, g3, g4⟩ := w2.lst g1 q3
        exact cutL_ok w2 (SqL.of g3) g4 go
theorem q_slV {a : Expr} {lo hi : Option Expr} {pos p2 : Pos} {dl dh : DO} (i : Nat) (ha : PE X a (tVar i)) (hl : QO X E lo dl) (hh : QO X E hi dh) : QE X E (.Subscript a (.Slice lo hi none p2) pos) (dSlV i dl dh) := by
  obtain ⟨tl, a1, a2⟩ := hl.ex
  obtain ⟨th, b1, b2⟩ := hh.ex
  exact ⟨_, pe_slice sl2 ha a1 b1, se_slV i a2 b2⟩
/-- e[lo:hi] -/
def dSl (da : DE) (dl dh : DO) : DE := fun ρ cs Ed Q => da ρ cs Ed fun x cs0 => dl ρ cs0 Ed fun lo cs1 => dh ρ cs1 Ed fun hi cs2 => match x with
  | .tuple ds => Q (.tuple (cutD ds lo hi)) cs2
  | .list ds => Q (.list (cutD ds lo hi)) cs2
  | _ => False
theorem se_sl {ta : TE} {tl th : TO} {da : DE} {dl dh : DO} (ha : SE K E ta da) (hl : SO K E tl dl) (hh : SO K E th dh) : SE K E (tSl (rSl2 K) ta tl th) (dSl da dl dh) := fun as σ H ρ cs Ed Qd Q w e ek h k =>
  ha as σ H ρ cs Ed _ _ w e ek h fun v H0 x cs0 e0 w0 d0 h0 => hl as σ H0 ρ cs0 Ed _ _ w0 (e.ext e0) (ek.ext e0) h0 fun lo H1 cs1 e1 w1 h1 => hh as σ H1 ρ cs1 Ed _ _ w1 ((e.ext e0).ext e1) ((ek.ext e0).ext e1) h1 fun hi H2 cs2 e2 w2 h2 => by
    have d0' := d0.mono (e1.trans e2).hid
    cases d0' with
    | lst g1 g2 => exact cutL_ok w2 (SqL.of (hid1 g1)) g2 fun v H' s d => k v H' _ cs2 (((e0.trans e1).trans e2).trans (Ext.of s)) (w2.grow s) d h2
    | tup g1 g2 => exact cutT_ok w2 g1 g2 fun v H' s d => k v H' _ cs2 (((e0.trans e1).trans e2).trans (Ext.of s)) (w2.grow s) d h2
    | _ => exact h2.elim
theorem q_sl {a : Expr} {lo hi : Option Expr} {pos p2 : Pos} {da : DE} {dl dh : DO} (ha : QE X E a da) (hl : QO X E lo dl) (hh : QO X E hi dh) : QE X E (.Subscript a (.Slice lo hi none p2) pos) (dSl da dl dh) := by
  obtain ⟨ta, c1, c2⟩ := ha.ex
  obtain ⟨tl, a1, a2⟩ := hl.ex
  obtain ⟨th, b1, b2⟩ := hh.ex
  exact ⟨_, pe_slice sl2 c1 a1 b1, se_sl c2 a2 b2⟩
end
end Kp

namespace Kp
open PySem PySem.Spec PyProof.Rows L2
section
variable {K : Frag} {E : XK} {X : Cx}
/-! ### arguments -/
def dNil : DA := fun _ cs _ Q => Q [] cs
def dCons (da : DE) (dr : DA) : DA := fun ρ cs Ed Q => da ρ cs Ed fun x cs1 => dr ρ cs1 Ed fun ss cs2 => Q (.d x :: ss) cs2
/-- a name's slot, whatever it is -/
def dConsV (i : Nat) (dr : DA) : DA := fun ρ cs Ed Q => match ρ[i]? with
  | some .no => False
  | some s => dr ρ cs Ed fun ss cs2 => Q (s :: ss) cs2
  | none => False
theorem Ar.ext {as : List CA} {H H' : Hp} {vs : List V} {ss : List Sl} (e : Ext as H H') (h : Ar K H as vs ss) : Ar K H' as vs ss := pr_map (fun _ _ q => ⟨q.1.ext e.hid, q.2⟩) h
theorem q_nil : QA X E [] dNil := ⟨_, pa_nil, fun as σ H ρ cs Ed Qd Q w e ek h k => k [] H [] cs Ext.refl w .nil h⟩
theorem q_cons {e : Expr} {es : List Expr} {da : DE} {dr : DA} (ha : QE X E e da) (hr : QA X E es dr) (hs : starEach (e :: es) X.env = (false, eval e X.env) :: starEach es X.env := by rfl) : QA X E (e :: es) (dCons da dr) := by
  obtain ⟨ta, a1, a2⟩ := ha.ex
  obtain ⟨tr, b1, b2⟩ := hr.ex
  refine ⟨_, pa_cons a1 b1 hs, fun as σ H ρ cs Ed Qd Q w e ek h k => a2 as σ H ρ cs Ed _ _ w e ek h fun v H1 x cs1 e1 w1 d1 h1 => b2 as σ H1 ρ cs1 Ed _ _ w1 (e.ext e1) (ek.ext e1) h1 fun vs H2 ss cs2 e2 w2 d2 h2 => ?_⟩
  exact k _ H2 _ cs2 (e1.trans e2) w2 (.cons ⟨(show SlOk X.K H2 as (some v) (.d x) from ⟨v, rfl, d1.mono e2.hid⟩), fun z => by cases z⟩ d2) h2
theorem q_consV {e : Expr} {es : List Expr} {dr : DA} (i : Nat) (ha : PE X e (tVar i)) (hr : QA X E es dr) (hs : starEach (e :: es) X.env = (false, eval e X.env) :: starEach es X.env := by rfl) : QA X E (e :: es) (dConsV i dr) := by
  obtain ⟨tr, b1, b2⟩ := hr.ex
  refine ⟨_, pa_cons ha b1 hs, fun as σ H ρ cs Ed Qd Q w e ek h k => ?_⟩
  have h0 : (match ρ[i]? with | some .no => False | some s => dr ρ cs Ed (fun ss cs2 => Qd (s :: ss) cs2) | none => False) := h
  cases q : ρ[i]? with
  | none => rw [q] at h0; exact h0.elim
  | some s =>
    rw [q] at h0
    have hn : s ≠ .no := fun z => by subst z; exact h0
    have h1 : dr ρ cs Ed (fun ss cs2 => Qd (s :: ss) cs2) := by
      cases s with
      | no => exact h0.elim
      | _ => exact h0
    obtain ⟨o, ho, hs⟩ := pr_get e q
    obtain ⟨v, rfl⟩ : ∃ v, o = some v := by
      cases s with
      | no => exact absurd rfl hn
      | d x => obtain ⟨v, e, _⟩ := hs; exact ⟨v, e⟩
      | c j => obtain ⟨a, _, e⟩ := hs; exact ⟨_, e⟩
      | k keys j => obtain ⟨a, _, e⟩ := hs; exact ⟨_, e⟩
      | o c j => obtain ⟨a, _, e⟩ := hs; exact ⟨_, e⟩
      | g c es => obtain ⟨a, _, _, e, _⟩ := hs; exact ⟨_, e⟩
      | x nm => obtain ⟨a, _, e, _⟩ := hs; exact ⟨_, e⟩
      | fn nm => exact ⟨_, hs⟩
      | lm P => exact hs.1
      | f ds => obtain ⟨a, _, e, _⟩ := hs; exact ⟨_, e⟩
    exact ⟨v, ho, b2 as σ H ρ cs Ed _ _ w e ek h1 fun vs H2 ss cs2 e2 w2 d2 h2 => k _ H2 _ cs2 e2 w2 (.cons ⟨hs.ext e2.hid, hn⟩ d2) h2⟩
/-- all of them data -/
def allD : List Sl → Option (List PyData)
  | [] => some []
  | .d x :: r => (allD r).map (x :: ·)
  | _ :: _ => none
theorem allD_ok {as : List CA} {H : Hp} : ∀ {vs : List V} {ss : List Sl} {ds : List PyData}, Ar K H as vs ss → allD ss = some ds → DqAll K (hid H as) vs ds
  | [], [], ds, _, e => by cases (show some [] = some ds from e); exact .nil
  | _ :: _, s :: r, ds, .cons h t, e => by
    cases s with
    | d x =>
      have e2 : (allD r).map (x :: ·) = some ds := e
      cases q : allD r with
      | none => rw [q] at e2; cases e2
      | some es =>
        rw [q] at e2
        cases e2
        obtain ⟨v, e3, h3⟩ := h.1
        cases e3
        exact .cons h3 (allD_ok t q)
    | _ => cases e
/-! ### displays -/
def dTup (da : DA) : DE := fun ρ cs Ed Q => da ρ cs Ed fun ss cs1 => match allD ss with
  | some ds => ds.length ≤ sizeLine ∧ Q (.tuple ds) cs1
  | none => False
def dLst (da : DA) : DE := fun ρ cs Ed Q => da ρ cs Ed fun ss cs1 => match allD ss with
  | some ds => ds.length ≤ sizeLine ∧ Q (.list ds) cs1
  | none => False
theorem q_tup {es : List Expr} {x1 : Nat} {pos : Pos} {da : DA} (ha : QA X E es da) : QE X E (.Tuple es x1 pos) (dTup da) := by
  obtain ⟨ta, a1, a2⟩ := ha.ex
  refine ⟨_, pe_tup a1, fun as σ H ρ cs Ed Qd Q w e ek h k => a2 as σ H ρ cs Ed _ _ w e ek h fun vs H1 ss cs1 e1 w1 d1 h1 => ?_⟩
  cases q : allD ss with
  | none => rw [q] at h1; exact h1.elim
  | some ds =>
    rw [q] at h1
    have d2 := allD_ok d1 q
    exact ⟨by rw [d2.len]; exact h1.1, fun p hp => k _ _ _ cs1 (e1.trans (Ext.of (Same.new hp))) (w1.grow (Same.new hp)) (.tup (SqT.of (hid_new (w1.fresh hp))) (d2.mono (new_mono hp))) h1.2⟩
theorem q_lst {es : List Expr} {pos : Pos} {da : DA} (ha : QA X E es da) : QE X E (.List es pos) (dLst da) := by
  obtain ⟨ta, a1, a2⟩ := ha.ex
  refine ⟨_, pe_lst a1, fun as σ H ρ cs Ed Qd Q w e ek h k => a2 as σ H ρ cs Ed _ _ w e ek h fun vs H1 ss cs1 e1 w1 d1 h1 => ?_⟩
  cases q : allD ss with
  | none => rw [q] at h1; exact h1.elim
  | some ds =>
    rw [q] at h1
    have d2 := allD_ok d1 q
    exact ⟨by rw [d2.len]; exact h1.1, fun p hp => k _ _ _ cs1 (e1.trans (Ext.of (Same.new hp))) (w1.grow (Same.new hp)) (.lst (hid_new (w1.fresh hp)) (d2.mono (new_mono hp))) h1.2⟩

/-! ### calls of defs: a promise over data -/
abbrev FD := List Sl → CS → XD → (PyData → CS → Prop) → Prop
def spD (K : Frag) (f : FD) : Sp := fun vs H Q E => ∃ (as : List CA) (ss : List Sl) (cs : CS) (Ed : XD) (Qd : PyData → CS → Prop), Wk K H as cs ∧ Ar K H as vs ss ∧ EK K E Ed as H ∧ f ss cs Ed Qd ∧
  ∀ v H' x cs', Ext as H H' → Wk K H' as cs' → Dq K (hid H' as) v x → Qd x cs' → Q v H'
/-- a def of the text that keeps such a promise -/
structure Cal (P : Program) (w : World) (K : Frag) (mg : Str → Option Value) (base : Heap) (k : Nat) (name : Str) (ps : List Str) (f : FD) : Prop where
  ex : ∃ (a : Addr) (fd : FuncData), mg name = some (.ref a) ∧ PySem.W.keepIn K (.ref a) = true ∧ FnOk P w K mg base (L2.CX P w) k a fd ps (spD K f) ∧ Binds K fd ps []
def dCall (f : FD) (da : DA) : DE := fun ρ cs Ed Q => da ρ cs Ed fun ss cs1 => f ss cs1 Ed Q
theorem se_call {f : FD} {ta : TA} {da : DA} (ha : SA K E ta da) : SE K E (tCall (spD K f) [] E ta) (dCall f da) := fun as σ H ρ cs Ed Qd Q w e ek h k =>
  ha as σ H ρ cs Ed _ _ w e ek h fun vs H1 ss cs1 e1 w1 d1 h1 => ⟨as, ss, cs1, Ed, Qd, w1, by rw [List.append_nil]; exact d1, ek.ext e1, h1, fun v H' x cs' e2 w2 d2 h2 => k v H' x cs' (e1.trans e2) w2 d2 h2⟩
theorem q_call {k : Nat} {name : Str} {ps : List Str} {f : FD} {e : Expr} {es : List Expr} {p pos : Pos} {da : DA} (F : Cal X.prog X.w X.K X.mg X.base k name ps f) (hr : Room k X.A) (hx : Passes (L2.CX X.prog X.w) X E) (ha : QA X E (e :: es) da)
    (hg : Gl X name := by rfl) (hdb : (name == ("__debug__" : Str)) = false := by decide) (he : starEach (e :: es) X.env = (false, eval e X.env) :: starEach es X.env := by rfl) (hpl : (backTo pos (starEach es X.env)).any (·.1) = false := by rfl) :
    QE X E (.Call (.Name name p) (e :: es) [] pos) (dCall f da) := by
  obtain ⟨a, fd, h1, h2, h3, h4⟩ := F.ex
  obtain ⟨ta, a1, a2⟩ := ha.ex
  exact ⟨_, pe_call h3 hr hg h1 h2 h4 .nil hx a1 hdb he hpl, se_call a2⟩

/-! ### calls of built-ins on data -/
abbrev RC := List PyData → (PyData → Prop) → Prop
def SC (K : Frag) (r : List V → Hp → VK → Prop) (rc : RC) : Prop := ∀ (as : List CA) (H : Hp) (cs : CS) (vs : List V) (ds : List PyData) (Qd : PyData → Prop) (Q : VK), Wk K H as cs → DqAll K (hid H as) vs ds → rc ds Qd →
  (∀ w H' z, Same H H' → Dq K (hid H' as) w z → Qd z → Q w H') → r vs H Q
def dCB (rc : RC) (da : DA) : DE := fun ρ cs Ed Q => da ρ cs Ed fun ss cs1 => match allD ss with
  | some ds => rc ds fun z => Q z cs1
  | none => False
theorem se_cb {r : List V → Hp → VK → Prop} {rc : RC} {ta : TA} {da : DA} (hr : SC K r rc) (ha : SA K E ta da) : SE K E (tCB r ta) (dCB rc da) := fun as σ H ρ cs Ed Qd Q w e ek h k =>
  ha as σ H ρ cs Ed _ _ w e ek h fun vs H1 ss cs1 e1 w1 d1 h1 => by
    cases q : allD ss with
    | none => rw [q] at h1; exact h1.elim
    | some ds =>
      rw [q] at h1
      exact hr as H1 cs1 vs ds _ _ w1 (allD_ok d1 q) h1 fun z H2 zz s d hq => k z H2 zz cs1 (e1.trans (Ext.of s)) (w1.grow s) d hq
theorem q_cb {id : String} {r : List V → Hp → VK → Prop} {rc : RC} {x : Str} {e : Expr} {es : List Expr} {p pos : Pos} {da : DA} (hc : CallR X (.builtin id) r) (hr : SC X.K r rc) (hm : X.mg x = none) (hv : bootBuiltins x = some (.builtin id)) (ha : QA X E (e :: es) da)
    (hg : Gl X x := by rfl) (hn : x ≠ "__name__" := by decide) (hdb : (x == ("__debug__" : Str)) = false := by decide)
    (he : starEach (e :: es) X.env = (false, eval e X.env) :: starEach es X.env := by rfl) (hpl : (backTo pos (starEach es X.env)).any (·.1) = false := by rfl) : QE X E (.Call (.Name x p) (e :: es) [] pos) (dCB rc da) := by
  obtain ⟨ta, a1, a2⟩ := ha.ex
  exact ⟨_, pe_callB hc hg hm hv a1 hn hdb he hpl, se_cb hr a2⟩
theorem q_ct {T : String} {r : List V → Hp → VK → Prop} {rc : RC} {x : Str} {e : Expr} {es : List Expr} {p pos : Pos} {da : DA} (hc : CallR X (.type T) r) (hr : SC X.K r rc) (hm : X.mg x = none) (hv : bootBuiltins x = some (.type T)) (ha : QA X E (e :: es) da)
    (hg : Gl X x := by rfl) (hn : x ≠ "__name__" := by decide) (hdb : (x == ("__debug__" : Str)) = false := by decide)
    (he : starEach (e :: es) X.env = (false, eval e X.env) :: starEach es X.env := by rfl) (hpl : (backTo pos (starEach es X.env)).any (·.1) = false := by rfl) : QE X E (.Call (.Name x p) (e :: es) [] pos) (dCB rc da) := by
  obtain ⟨ta, a1, a2⟩ := ha.ex
  exact ⟨_, pe_callTy hc hg hm hv a1 hn hdb he hpl, se_cb hr a2⟩
def cAbs : RC := fun ds Q => match ds with
  | [.int i] => Q (.int (if i < 0 then -i else i))
  | _ => False
def cMin2 : RC := fun ds Q => match ds with
  | [.int i, .int j] => Q (.int (if j < i then j else i))
  | _ => False
def cMax2 : RC := fun ds Q => match ds with
  | [.int i, .int j] => Q (.int (if j > i then j else i))
  | _ => False
def cInt : RC := fun ds Q => match ds with
  | [.int i] => Q (.int i)
  | [.bool b] => Q (.int (if b then 1 else 0))
  | _ => False
def cLen : RC := fun ds Q => match ds with
  | [.list xs] => Q (.int xs.length)
  | [.tuple xs] => Q (.int xs.length)
  | _ => False
def cTuple : RC := fun ds Q => match ds with
  | [.list xs] => Q (.tuple xs)
  | [.tuple xs] => Q (.tuple xs)
  | _ => False
def cList : RC := fun ds Q => match ds with
  | [.list xs] => Q (.list xs)
  | [.tuple xs] => Q (.list xs)
  | _ => False
theorem sc_abs : SC K (fun xs H Q => ∃ i, xs = [V.int i] ∧ Q (.int (if i < 0 then -i else i)) H) cAbs := fun as H cs vs ds Qd Q w d h k => by
  match ds, d with
  | [.int i], .cons (.int _) .nil => exact ⟨i, rfl, k _ H _ (Same.refl H) (.int _) h⟩
theorem sc_min2 : SC K (fun xs H Q => ∃ i j, xs = [V.int i, V.int j] ∧ Q (.int (if j < i then j else i)) H) cMin2 := fun as H cs vs ds Qd Q w d h k => by
  match ds, d with
  | [.int i, .int j], .cons (.int _) (.cons (.int _) .nil) => exact ⟨i, j, rfl, k _ H _ (Same.refl H) (.int _) h⟩
theorem sc_max2 : SC K (fun xs H Q => ∃ i j, xs = [V.int i, V.int j] ∧ Q (.int (if j > i then j else i)) H) cMax2 := fun as H cs vs ds Qd Q w d h k => by
  match ds, d with
  | [.int i, .int j], .cons (.int _) (.cons (.int _) .nil) => exact ⟨i, j, rfl, k _ H _ (Same.refl H) (.int _) h⟩
theorem sc_int : SC K (fun xs H Q => (∃ i, xs = [V.int i] ∧ Q (.int i) H) ∨ ∃ k, xs = [V.bl k] ∧ Q (.int (if k then 1 else 0)) H) cInt := fun as H cs vs ds Qd Q w d h k => by
  match ds, d with
  | [.int i], .cons (.int _) .nil => exact .inl ⟨i, rfl, k _ H _ (Same.refl H) (.int _) h⟩
  | [.bool b], .cons (.bl _) .nil => exact .inr ⟨b, rfl, k _ H _ (Same.refl H) (.int _) h⟩
theorem sc_len : SC K (fun xs H Q => ∃ p ys, xs = [V.ref p] ∧ (SqL K H p ys ∨ SqT K H p ys) ∧ Q (.int (ys.length : Nat)) H) cLen := fun as H cs vs ds Qd Q w d h k => by
  match ds, d with
  | [.list xs], .cons (.lst h1 h2) .nil => exact ⟨_, _, rfl, .inl (SqL.of (hid1 h1)), k _ H _ (Same.refl H) (.int _) (by rw [h2.len]; exact h)⟩
  | [.tuple xs], .cons (.tup h1 h2) .nil => exact ⟨_, _, rfl, .inr (hidT h1), k _ H _ (Same.refl H) (.int _) (by rw [h2.len]; exact h)⟩
theorem sc_tuple : SC K (fun xs H Q => ∃ p ys, xs = [V.ref p] ∧ ((SqL K H p ys ∧ ∀ l, H l = none → Q (.ref l) (upd H l (.tup ys))) ∨ (SqT K H p ys ∧ Q (.ref p) H))) cTuple := fun as H cs vs ds Qd Q w d h k => by
  match ds, d with
  | [.list xs], .cons (.lst h1 h2) .nil => exact ⟨_, _, rfl, .inl ⟨SqL.of (hid1 h1), fun p hp => k _ _ _ (Same.new hp) (.tup (SqT.of (hid_new (w.fresh hp))) (h2.mono (new_mono hp))) h⟩⟩
  | [.tuple xs], .cons (.tup h1 h2) .nil => exact ⟨_, _, rfl, .inr ⟨hidT h1, k _ H _ (Same.refl H) (.tup h1 h2) h⟩⟩
theorem sc_list : SC K (fun xs H Q => ∃ p ys, xs = [V.ref p] ∧ (SqL K H p ys ∨ SqT K H p ys) ∧ ∀ l, H l = none → Q (.ref l) (upd H l (.lst ys))) cList := fun as H cs vs ds Qd Q w d h k => by
  match ds, d with
  | [.list xs], .cons (.lst h1 h2) .nil => exact ⟨_, _, rfl, .inl (SqL.of (hid1 h1)), fun p hp => k _ _ _ (Same.new hp) (.lst (hid_new (w.fresh hp)) (h2.mono (new_mono hp))) h⟩
  | [.tuple xs], .cons (.tup h1 h2) .nil => exact ⟨_, _, rfl, .inr (hidT h1), fun p hp => k _ _ _ (Same.new hp) (.lst (hid_new (w.fresh hp)) (h2.mono (new_mono hp))) h⟩
/-- len(x), tuple(x), x a name (a cell, the script, data) -/
def dV1 (g : List PyData → PyData) (i : Nat) : DE := fun ρ cs _ Q => ∃ ds, itemsOf cs ρ[i]? = some ds ∧ Q (g ds) cs
theorem q_lenV {a : Expr} {p pos : Pos} (i : Nat) (ha : PE X a (tVar i)) (hm : X.mg "len" = none) (hg : Gl X "len" := by rfl)
    (he : starEach [a] X.env = (false, eval a X.env) :: starEach [] X.env := by rfl) (hpl : (backTo pos (starEach [] X.env)).any (·.1) = false := by rfl) : QE X E (.Call (.Name "len" p) [a] [] pos) (dV1 (fun ds => .int ds.length) i) := by
  refine ⟨_, pe_callB call_len_seq hg hm boot_len (pa_cons ha pa_nil he) (he := he) (hpl := hpl), fun as σ H ρ cs Ed Qd Q w e ek h k => ?_⟩
  obtain ⟨ds, h1, h2⟩ := h
  obtain ⟨a, xs, h3, h4, h5⟩ := slot_items w e h1
  exact ⟨_, h3, a, xs, rfl, h4.imp_right hidT, k _ H _ cs Ext.refl w (.int _) (by rw [h5.len]; exact h2)⟩
theorem boot_tuple' : bootBuiltins "tuple" = some (.type "tuple") := by decide +kernel
theorem boot_list' : bootBuiltins "list" = some (.type "list") := by decide +kernel
theorem q_tupleV {a : Expr} {p pos : Pos} (i : Nat) (ha : PE X a (tVar i)) (hm : X.mg "tuple" = none) (hg : Gl X "tuple" := by rfl)
    (he : starEach [a] X.env = (false, eval a X.env) :: starEach [] X.env := by rfl) (hpl : (backTo pos (starEach [] X.env)).any (·.1) = false := by rfl) : QE X E (.Call (.Name "tuple" p) [a] [] pos) (dV1 PyData.tuple i) := by
  refine ⟨_, pe_callTy call_tuple_of hg hm boot_tuple' (pa_cons ha pa_nil he) (he := he) (hpl := hpl), fun as σ H ρ cs Ed Qd Q w e ek h k => ?_⟩
  obtain ⟨ds, h1, h2⟩ := h
  obtain ⟨a, xs, h3, h4, h5⟩ := slot_items w e h1
  refine ⟨_, h3, a, xs, rfl, ?_⟩
  rcases h4 with h4 | h4
  · exact .inl ⟨h4, fun p hp => k _ _ _ cs (Ext.of (Same.new hp)) (w.grow (Same.new hp)) (.tup (SqT.of (hid_new (w.fresh hp))) (h5.mono (new_mono hp))) h2⟩
  · exact .inr ⟨hidT h4, k _ H _ cs Ext.refl w (.tup h4 h5) h2⟩

/-! ### tests, and, or, not, if -/
def dTB (da : DE) : DT := fun ρ cs Ed Q => da ρ cs Ed fun x cs1 => match x with
  | .bool b => Q b cs1
  | _ => False
theorem q_tv {e : Expr} {da : DE} (ha : QE X E e da) (he : ∀ whole, isTrue e X.env whole = (do let v ← whole; standAt e.pos; holding [v] (truthy v)) := by intro _; rfl) : QT X E e (dTB da) := by
  obtain ⟨ta, a1, a2⟩ := ha.ex
  refine ⟨_, pt_val a1 he, fun as σ H ρ cs Ed Qd Q w e ek h k => a2 as σ H ρ cs Ed _ _ w e ek h fun v H1 x cs1 e1 w1 d1 h1 => ?_⟩
  cases d1 <;> try exact h1.elim
  exact ⟨_, rfl, k _ H1 cs1 e1 w1 h1⟩
theorem q_tcmp {a b : Expr} {op : CmpOp} {pos : Pos} {r : R2} {rd : R2D} {da db : DE} (ho : OpR X (compareOp op) r) (hr : SR X.K r rd) (ha : QE X E a da) (hb : QE X E b db) (hm : behindInMarks op b = false := by first | exact nomark _ | rfl) :
    QT X E (.Compare a [op] [b] pos) (dTB (dOp rd da db)) := by
  obtain ⟨ta, a1, a2⟩ := ha.ex
  obtain ⟨tb, b1, b2⟩ := hb.ex
  refine ⟨_, pt_cmpR ho a1 b1 hm, fun as σ H ρ cs Ed Qd Q w e ek h k => se_op a2 b2 hr as σ H ρ cs Ed _ _ w e ek h fun v H1 x cs1 e1 w1 d1 h1 => ?_⟩
  cases d1 <;> try exact h1.elim
  exact ⟨_, rfl, k _ H1 cs1 e1 w1 h1⟩
def dAnd (da db : DT) : DT := fun ρ cs Ed Q => da ρ cs Ed fun b cs1 => if b = true then db ρ cs1 Ed Q else Q false cs1
def dOr (da db : DT) : DT := fun ρ cs Ed Q => da ρ cs Ed fun b cs1 => if b = true then Q true cs1 else db ρ cs1 Ed Q
def dNot (da : DT) : DT := fun ρ cs Ed Q => da ρ cs Ed fun b cs1 => Q (!b) cs1
theorem st_and {ta tb : TT} {da db : DT} (a2 : ST K E ta da) (b2 : ST K E tb db) : ST K E (tAnd ta tb) (dAnd da db) := fun as σ H ρ cs Ed Qd Q w e ek h k => a2 as σ H ρ cs Ed _ _ w e ek h fun b H1 cs1 e1 w1 h1 => by
  cases b with
  | true => exact iteT (b2 as σ H1 ρ cs1 Ed Qd Q w1 (e.ext e1) (ek.ext e1) (by simpa using h1) fun b H2 cs2 e2 w2 h2 => k b H2 cs2 (e1.trans e2) w2 h2)
  | false => exact iteF (k _ H1 cs1 e1 w1 (by simpa using h1))
theorem st_or {ta tb : TT} {da db : DT} (a2 : ST K E ta da) (b2 : ST K E tb db) : ST K E (tOr ta tb) (dOr da db) := fun as σ H ρ cs Ed Qd Q w e ek h k => a2 as σ H ρ cs Ed _ _ w e ek h fun b H1 cs1 e1 w1 h1 => by
  cases b with
  | false => exact iteF (b2 as σ H1 ρ cs1 Ed Qd Q w1 (e.ext e1) (ek.ext e1) (by simpa using h1) fun b H2 cs2 e2 w2 h2 => k b H2 cs2 (e1.trans e2) w2 h2)
  | true => exact iteT (k _ H1 cs1 e1 w1 (by simpa using h1))
theorem q_and1 {a : Expr} {pos : Pos} {da : DT} (ha : QT X E a da) : QW X E (.BoolOp .And [a] pos) da := by
  obtain ⟨ta, a1, a2⟩ := ha.ex
  exact ⟨_, pw_and1 a1, a2⟩
theorem q_or1 {a : Expr} {pos : Pos} {da : DT} (ha : QT X E a da) : QW X E (.BoolOp .Or [a] pos) da := by
  obtain ⟨ta, a1, a2⟩ := ha.ex
  exact ⟨_, pw_or1 a1, a2⟩
theorem q_and {a b : Expr} {rest : List Expr} {pos : Pos} {da db : DT} (ha : QT X E a da) (hb : QW X E (.BoolOp .And (b :: rest) pos) db) : QW X E (.BoolOp .And (a :: b :: rest) pos) (dAnd da db) := by
  obtain ⟨ta, a1, a2⟩ := ha.ex
  obtain ⟨tb, b1, b2⟩ := hb.ex
  exact ⟨_, pw_and a1 b1, st_and a2 b2⟩
theorem q_or {a b : Expr} {rest : List Expr} {pos : Pos} {da db : DT} (ha : QT X E a da) (hb : QW X E (.BoolOp .Or (b :: rest) pos) db) : QW X E (.BoolOp .Or (a :: b :: rest) pos) (dOr da db) := by
  obtain ⟨ta, a1, a2⟩ := ha.ex
  obtain ⟨tb, b1, b2⟩ := hb.ex
  exact ⟨_, pw_or a1 b1, st_or a2 b2⟩
theorem q_w {e : Expr} {d : DT} (h : QW X E e d) : QT X E e d := by
  obtain ⟨t, a1, a2⟩ := h.ex
  exact ⟨_, a1.pt, a2⟩
theorem q_not {a : Expr} {pos : Pos} {da : DT} (ha : QT X E a da) : QT X E (.UnaryOp .Not a pos) (dNot da) := by
  obtain ⟨ta, a1, a2⟩ := ha.ex
  exact ⟨_, pt_not a1, fun as σ H ρ cs Ed Qd Q w e ek h k => a2 as σ H ρ cs Ed _ _ w e ek h fun b H1 cs1 e1 w1 h1 => k _ H1 cs1 e1 w1 h1⟩
/-- as values -/
def dVand (da db : DE) : DE := fun ρ cs Ed Q => da ρ cs Ed fun x cs1 => match x with
  | .bool b => if b = true then db ρ cs1 Ed Q else Q (.bool false) cs1
  | _ => False
def dVor (da db : DE) : DE := fun ρ cs Ed Q => da ρ cs Ed fun x cs1 => match x with
  | .bool b => if b = true then Q (.bool true) cs1 else db ρ cs1 Ed Q
  | _ => False
def dVnot (da : DE) : DE := fun ρ cs Ed Q => da ρ cs Ed fun x cs1 => match x with
  | .bool b => Q (.bool (!b)) cs1
  | _ => False
theorem q_v1 {op : BoolOp} {a : Expr} {pos : Pos} {da : DE} (ha : QE X E a da) : QE X E (.BoolOp op [a] pos) da := by
  obtain ⟨ta, a1, a2⟩ := ha.ex
  exact ⟨_, pe_one a1, a2⟩
theorem q_vand {a b : Expr} {rest : List Expr} {pos : Pos} {da db : DE} (ha : QE X E a da) (hb : QE X E (.BoolOp .And (b :: rest) pos) db) : QE X E (.BoolOp .And (a :: b :: rest) pos) (dVand da db) := by
  obtain ⟨ta, a1, a2⟩ := ha.ex
  obtain ⟨tb, b1, b2⟩ := hb.ex
  refine ⟨_, pe_and a1 b1, fun as σ H ρ cs Ed Qd Q w e ek h k => a2 as σ H ρ cs Ed _ _ w e ek h fun v H1 x cs1 e1 w1 d1 h1 => ?_⟩
  cases d1 <;> try exact h1.elim
  refine ⟨_, rfl, ?_⟩
  rename_i b
  cases b with
  | true => exact iteT (b2 as σ H1 ρ cs1 Ed Qd Q w1 (e.ext e1) (ek.ext e1) (by simpa using h1) fun v H2 x cs2 e2 w2 d2 h2 => k v H2 x cs2 (e1.trans e2) w2 d2 h2)
  | false => exact iteF (k _ H1 _ cs1 e1 w1 (.bl false) (by simpa using h1))
theorem q_vor {a b : Expr} {rest : List Expr} {pos : Pos} {da db : DE} (ha : QE X E a da) (hb : QE X E (.BoolOp .Or (b :: rest) pos) db) : QE X E (.BoolOp .Or (a :: b :: rest) pos) (dVor da db) := by
  obtain ⟨ta, a1, a2⟩ := ha.ex
  obtain ⟨tb, b1, b2⟩ := hb.ex
  refine ⟨_, pe_or a1 b1, fun as σ H ρ cs Ed Qd Q w e ek h k => a2 as σ H ρ cs Ed _ _ w e ek h fun v H1 x cs1 e1 w1 d1 h1 => ?_⟩
  cases d1 <;> try exact h1.elim
  refine ⟨_, rfl, ?_⟩
  rename_i b
  cases b with
  | false => exact iteF (b2 as σ H1 ρ cs1 Ed Qd Q w1 (e.ext e1) (ek.ext e1) (by simpa using h1) fun v H2 x cs2 e2 w2 d2 h2 => k v H2 x cs2 (e1.trans e2) w2 d2 h2)
  | true => exact iteT (k _ H1 _ cs1 e1 w1 (.bl true) (by simpa using h1))
theorem q_vnot {a : Expr} {pos : Pos} {da : DE} (ha : QE X E a da) : QE X E (.UnaryOp .Not a pos) (dVnot da) := by
  obtain ⟨ta, a1, a2⟩ := ha.ex
  refine ⟨_, pe_not a1, fun as σ H ρ cs Ed Qd Q w e ek h k => a2 as σ H ρ cs Ed _ _ w e ek h fun v H1 x cs1 e1 w1 d1 h1 => ?_⟩
  cases d1 <;> try exact h1.elim
  exact ⟨_, rfl, k _ H1 _ cs1 e1 w1 (.bl _) h1⟩
def dIf (dt : DT) (da db : DE) : DE := fun ρ cs Ed Q => dt ρ cs Ed fun b cs1 => if b = true then da ρ cs1 Ed Q else db ρ cs1 Ed Q
theorem q_if {c a b : Expr} {pos : Pos} {dt : DT} {da db : DE} (hc : QT X E c dt) (ha : QE X E a da) (hb : QE X E b db) : QE X E (.IfExp c a b pos) (dIf dt da db) := by
  obtain ⟨tc, c1, c2⟩ := hc.ex
  obtain ⟨ta, a1, a2⟩ := ha.ex
  obtain ⟨tb, b1, b2⟩ := hb.ex
  refine ⟨_, pe_ifExp c1 a1 b1, fun as σ H ρ cs Ed Qd Q w e ek h k => c2 as σ H ρ cs Ed _ _ w e ek h fun b H1 cs1 e1 w1 h1 => ?_⟩
  cases b with
  | true => exact iteT (a2 as σ H1 ρ cs1 Ed Qd Q w1 (e.ext e1) (ek.ext e1) (by simpa using h1) fun v H2 x cs2 e2 w2 d2 h2 => k v H2 x cs2 (e1.trans e2) w2 d2 h2)
  | false => exact iteF (b2 as σ H1 ρ cs1 Ed Qd Q w1 (e.ext e1) (ek.ext e1) (by simpa using h1) fun v H2 x cs2 e2 w2 d2 h2 => k v H2 x cs2 (e1.trans e2) w2 d2 h2)
/-- a op b op' c -/
def dChain (rd rd' : R2D) (da db dc : DE) : DE := fun ρ cs Ed Q => da ρ cs Ed fun x cs1 => db ρ cs1 Ed fun y cs2 => rd x y fun z => match z with
  | .bool b => if b = true then dc ρ cs2 Ed fun u cs3 => rd' y u fun z' => Q z' cs3 else Q (.bool false) cs2
  | _ => False
theorem q_chain {a b c : Expr} {op op' : CmpOp} {pos : Pos} {r r' : R2} {rd rd' : R2D} {da db dc : DE} (ho : OpR X (compareOp op) r) (hr : SR X.K r rd) (ho' : OpR X (compareOp op') r') (hr' : SR X.K r' rd') (ha : QE X E a da) (hb : QE X E b db) (hc : QE X E c dc)
    (hm : lastMarks [op, op'] [b, c] = false := by with_unfolding_all rfl) : QE X E (.Compare a [op, op'] [b, c] pos) (dChain rd rd' da db dc) := by
  obtain ⟨ta, a1, a2⟩ := ha.ex
  obtain ⟨tb, b1, b2⟩ := hb.ex
  obtain ⟨tc, c1, c2⟩ := hc.ex
  refine ⟨_, pe_chain ho ho' a1 b1 c1 hm, fun as σ H ρ cs Ed Qd Q w e ek h k => a2 as σ H ρ cs Ed _ _ w e ek h fun v H1 x cs1 e1 w1 d1 h1 => b2 as σ H1 ρ cs1 Ed _ _ w1 (e.ext e1) (ek.ext e1) h1 fun u H2 y cs2 e2 w2 d2 h2 => ?_⟩
  refine hr as H2 cs2 v u x y _ _ w2 (d1.mono e2.hid) d2 h2 fun z H3 zz s3 d3 h3 => ?_
  cases d3 <;> try exact h3.elim
  rename_i b
  refine ⟨b, rfl, ?_⟩
  have e3 : Ext as H H3 := (e1.trans e2).trans (Ext.of s3)
  cases b with
  | false => exact iteF (k _ H3 _ cs2 e3 (w2.grow s3) (.bl false) (by simpa using h3))
  | true =>
    refine iteT (c2 as σ H3 ρ cs2 Ed _ _ (w2.grow s3) (e.ext e3) (ek.ext e3) (show dc ρ cs2 Ed _ by simpa using h3) fun u' H4 y' cs4 e4 w4 d4 h4 => ?_)
    exact hr' as H4 cs4 u u' y y' _ _ w4 ((d2.mono (Ext.of (as := as) s3).hid).mono e4.hid) d4 h4 fun z H5 zz s5 d5 h5 => k z H5 zz cs4 ((e3.trans e4).trans (Ext.of s5)) (w4.grow s5) d5 h5
end
end Kp

namespace Kp
open PySem PySem.Spec PyProof.Rows L2

/-! ### statements over data -/
/-- what is wanted behind a statement; nx k: k cells have been made (they stand first); m: the def's own cells so far; rf: a new list handed back -/
structure DN where
  m : Nat
  nx : Nat → List Sl → CS → Prop
  rt : PyData → CS → Prop
  rf : Kd → List PyData → CS → Prop
  bk : Nat → List Sl → CS → Prop
  ct : Nat → List Sl → CS → Prop
  ex : XD
def DN.push (k : Nat) (D : DN) : DN where
  m := k + D.m
  nx := fun j ρ cs => D.nx (j + k) ρ cs
  rt := fun x cs => D.rt x (cs.drop k)
  rf := fun kd x cs => D.rf kd x (cs.drop k)
  bk := fun j ρ cs => D.bk (j + k) ρ cs
  ct := fun j ρ cs => D.ct (j + k) ρ cs
  ex := fun C cs => D.ex C (cs.drop k)
abbrev DS := DN → List Sl → CS → Prop
/-- k cells stand ahead -/
def shSl (k : Nat) : Sl → Sl
  | .c j => .c (k + j)
  | .k keys j => .k keys (k + j)
  | .o c j => .o c (k + j)
  | .lm _ => .lm fun _ _ _ => True
  | s => s
/-- the first k cells are data from here on -/
def disSl (k : Nat) (cs : CS) : Sl → Sl
  | .c j => if j < k then (match cs[j]? with | some ds => .d (.list ds) | none => .no) else .c (j - k)
  | .k keys j => if j < k then .no else .k keys (j - k)
  | .o c j => if j < k then (match cs[j]? with | some ds => .g c ds | none => .no) else .o c (j - k)
  | .lm _ => .lm fun _ _ _ => True
  | s => s
section
variable {K : Frag} {H H' : Hp} {as ex : List CA} {cs : CS} {σ : L2.St} {ρ : List Sl}
theorem hid_app : Same (hid H (ex ++ as)) (hid H as) := fun b o h => by
  obtain ⟨h1, h2⟩ := hid_of h
  rw [hid_out h1.right]
  exact h2
/-- cells that are new -/
structure Nw (H H' : Hp) (ex : List CA) : Prop where
  lv : Lv H' ex
  nw : ∀ p ∈ hdl H' ex, H p = none
theorem Nw.nil : Nw H H' [] := ⟨fun i f h => by simp at h, fun p h => by cases h⟩
theorem Nw.lst {p : Addr} (h : H p = none) : Nw H H' [⟨p, .lst⟩] := ⟨fun i f q => by
  cases i with
  | zero => cases q; rfl
  | succ i => simp at q, fun q hq => by
  have hq' : q ∈ [p] := hq
  rw [List.mem_singleton.mp hq']; exact h⟩
theorem Nw.dic {p : Addr} {ks : List Str} (h : H p = none) : Nw H H' [⟨p, .dic ks⟩] := ⟨fun i f q => by
  cases i with
  | zero => cases q; rfl
  | succ i => simp at q, fun q hq => by
  have hq' : q ∈ [p] := hq
  rw [List.mem_singleton.mp hq']; exact h⟩
theorem Nw.out {p : Addr} (n : Nw H H' ex) (h : p ∈ ex) : H p = none := by
  obtain ⟨j, f, h1, h2⟩ := at_mem h
  exact n.nw p (mem_hdl.mpr ⟨j, f, h1, by rw [← h2]; exact adr_self⟩)
theorem Nw.at_ (n : Nw H H' ex) {i : Nat} {f : CA} (h : ex[i]? = some f) : Nw H H' [f] := ⟨fun j g q => by
  cases j with
  | zero => cases q; exact n.lv i f h
  | succ j => simp at q, fun b hb => n.nw b (mem_hdl.mpr ⟨i, f, h, by
    obtain ⟨j, g, q, z⟩ := mem_hdl.mp hb
    cases j with
    | zero => cases q; exact z
    | succ j => simp at q⟩)⟩
theorem Nw.app {x y : List CA} (h1 : Nw H H' x) (h2 : Nw H H' y) : Nw H H' (x ++ y) := ⟨h1.lv.app h2.lv, fun p hp => by
  rw [hdl_app] at hp
  exact (List.mem_append.mp hp).elim (h1.nw p) (h2.nw p)⟩
theorem pr_drop {α β : Type} {F : α → β → Prop} : ∀ {l1 l2 : List α} {m : List β}, Paired F (l1 ++ l2) m → Paired F l2 (m.drop l1.length)
  | [], _, _, h => h
  | _ :: l1, l2, _ :: m, .cons _ t => by
    show Paired _ l2 (m.drop l1.length)
    exact pr_drop t
theorem Wk.drop (w : Wk K H (ex ++ as) cs) : Wk K H as (cs.drop ex.length) :=
  ⟨(List.nodup_append.mp (by have n := w.nd; rw [hdl_app] at n; exact n)).2.1, pr_map (fun f ds q => q.move hid_app fun b _ o h => h) (pr_drop w.cel)⟩
theorem Wk.apart (w : Wk K H (ex ++ as) cs) {j : Nat} {f : CA} (h : ex[j]? = some f) : Vs H as f.a := ⟨w.lv.right, fun z => by
  have n := w.nd
  rw [hdl_app] at n
  exact (List.nodup_append.mp n).2.2 f.a (mem_hdl.mpr ⟨j, f, h, adr_self⟩) f.a z rfl⟩
theorem Wk.aparts (w : Wk K H (ex ++ as) cs) {j : Nat} {f : CA} (h : ex[j]? = some f) : ∀ b ∈ adr H f, Vs H as b := fun b hb => ⟨w.lv.right, fun z => by
  have n := w.nd
  rw [hdl_app] at n
  exact (List.nodup_append.mp n).2.2 b (mem_hdl.mpr ⟨j, f, h, hb⟩) b z rfl⟩
theorem FldAll.all {as2 : List CA} (s : Same (hid H as2) (hid H as)) : ∀ {ns : List (Str × Bool)} {vs : List V} {ds : List PyData}, FldAll K H as2 ns vs ds → (∀ b ∈ refsOf ns (fz ns vs), Vs H as b) → DqAll K (hid H as) vs ds
  | _, _, _, .nil, _ => .nil
  | (x, t) :: ns, v :: vs, d :: ds, .cons h r, e => by
    refine .cons ?_ (FldAll.all s r fun b hb => e b (refs_cons hb))
    cases t with
    | false => exact Dq.mono s h
    | true =>
      obtain ⟨l, xs, es, rfl, rfl, h3, h4⟩ := h
      exact .lst (by rw [hid_out (e l List.mem_cons_self)]; exact h3) (h4.mono s)
theorem Ev.diss (w : Wk K H (ex ++ as) cs) (e : Ev K H (ex ++ as) σ ρ) : Ev K H as σ (ρ.map (disSl ex.length cs)) := by
  have one : ∀ (o : Option V) (s : Sl), SlOk K H (ex ++ as) o s → SlOk K H as o (disSl ex.length cs s) := fun o s h => by
    cases s with
    | no => trivial
    | d x => obtain ⟨v, h1, h2⟩ := h; exact ⟨v, h1, h2.mono hid_app⟩
    | f ds => obtain ⟨a, xs, h1, h2, h3⟩ := h; exact ⟨a, xs, h1, hid_app.seq h2, h3.mono hid_app⟩
    | x nm => obtain ⟨a, oe, h1, h2, ⟨d, h3, h4⟩, h5⟩ := h; exact ⟨a, oe, h1, hid_app _ _ h2, ⟨d, h3, h4.mono hid_app⟩, h5⟩
    | fn nm => exact h
    | lm P => exact ⟨h.1, fun _ _ => trivial⟩
    | k keys j =>
      obtain ⟨a, h1, h2⟩ := h
      show SlOk K H as o (if j < ex.length then .no else .k keys (j - ex.length))
      by_cases hj : j < ex.length
      · rw [if_pos hj]; trivial
      · rw [if_neg hj]
        rw [List.getElem?_append_right (by omega)] at h1
        exact ⟨a, h1, h2⟩
    | g c es => obtain ⟨a, dx, vs, h1, h2, h3, h4⟩ := h; exact ⟨a, dx, vs, h1, hid_app _ _ h2, h3, h4.mono hid_app⟩
    | o c j =>
      obtain ⟨a, h1, h2⟩ := h
      show SlOk K H as o (if j < ex.length then (match cs[j]? with | some ds => .g c ds | none => .no) else .o c (j - ex.length))
      by_cases hj : j < ex.length
      · rw [if_pos hj]
        cases q : cs[j]? with
        | none => trivial
        | some ds =>
          obtain ⟨dx, vs, h3, h4⟩ := w.obj h1 q
          have hx : ex[j]? = some ⟨a, .obj c⟩ := by rw [List.getElem?_append_left hj] at h1; exact h1
          refine ⟨a, dx, vs, h2, by rw [hid_out (w.apart hx)]; exact h3, h4.len.2, h4.all hid_app fun b hb => w.aparts hx b (List.mem_cons_of_mem _ ?_)⟩
          rw [own_at h3]
          exact hb
      · rw [if_neg hj]
        rw [List.getElem?_append_right (by omega)] at h1
        exact ⟨a, h1, h2⟩
    | c j =>
      obtain ⟨a, h1, h2⟩ := h
      show SlOk K H as o (if j < ex.length then (match cs[j]? with | some ds => .d (.list ds) | none => .no) else .c (j - ex.length))
      by_cases hj : j < ex.length
      · rw [if_pos hj]
        obtain ⟨ds, h3, xs, h4, h5⟩ := w.lst' h1
        rw [h3]
        refine ⟨_, h2, .lst ?_ (h5.mono hid_app)⟩
        rw [List.getElem?_append_left hj] at h1
        rw [hid_out (w.apart h1)]
        exact h4
      · rw [if_neg hj]
        rw [List.getElem?_append_right (by omega)] at h1
        exact ⟨a, h1, h2⟩
  have go : ∀ {l : List (Option V)} {m : List Sl}, Paired (SlOk K H (ex ++ as)) l m → Paired (SlOk K H as) l (m.map (disSl ex.length cs)) := fun {l m} h => by
    induction h with
    | nil => exact .nil
    | cons r _ ih => exact .cons (one _ _ r) ih
  exact go e
/-- new cells ahead: the slots -/
theorem hid_sh (hf : Nw H H' ex) (s : Ext as H H') : Same (hid H as) (hid H' (ex ++ as)) := fun b o h => by
  obtain ⟨h1, h2⟩ := hid_of h
  rw [hid_out (Vs.app ⟨hf.lv, fun z => by rw [hf.nw b z] at h2; cases h2⟩ (s.vs h1 h2))]
  exact s.sm b o h1 h2
theorem Ev.sh (hf : Nw H H' ex) (e : Ev K H as σ ρ) (s : Ext as H H') : Ev K H' (ex ++ as) σ (ρ.map (shSl ex.length)) := by
  have same : Same (hid H as) (hid H' (ex ++ as)) := hid_sh hf s
  have one : ∀ (o : Option V) (sl : Sl), SlOk K H as o sl → SlOk K H' (ex ++ as) o (shSl ex.length sl) := fun o sl h => by
    cases sl with
    | no => trivial
    | d x => obtain ⟨v, h1, h2⟩ := h; exact ⟨v, h1, h2.mono same⟩
    | f ds => obtain ⟨a, xs, h1, h2, h3⟩ := h; exact ⟨a, xs, h1, same.seq h2, h3.mono same⟩
    | x nm => obtain ⟨a, oe, h1, h2, ⟨d, h3, h4⟩, h5⟩ := h; exact ⟨a, oe, h1, same _ _ h2, ⟨d, h3, h4.mono same⟩, h5⟩
    | fn nm => exact h
    | lm P => exact ⟨h.1, fun _ _ => trivial⟩
    | c j =>
      obtain ⟨a, h1, h2⟩ := h
      refine ⟨a, ?_, h2⟩
      rw [List.getElem?_append_right (by omega)]
      rw [show ex.length + j - ex.length = j by omega]
      exact h1
    | g c es => obtain ⟨a, dx, vs, h1, h2, h3, h4⟩ := h; exact ⟨a, dx, vs, h1, same _ _ h2, h3, h4.mono same⟩
    | o c j =>
      obtain ⟨a, h1, h2⟩ := h
      refine ⟨a, ?_, h2⟩
      rw [List.getElem?_append_right (by omega)]
      rw [show ex.length + j - ex.length = j by omega]
      exact h1
    | k keys j =>
      obtain ⟨a, h1, h2⟩ := h
      refine ⟨a, ?_, h2⟩
      rw [List.getElem?_append_right (by omega)]
      rw [show ex.length + j - ex.length = j by omega]
      exact h1
  have go : ∀ {l : List (Option V)} {m : List Sl}, Paired (SlOk K H as) l m → Paired (SlOk K H' (ex ++ as)) l (m.map (shSl ex.length)) := fun {l m} h => by
    induction h with
    | nil => exact .nil
    | cons r _ ih => exact .cons (one _ _ r) ih
  exact go e
/-- fresh ahead is fresh before -/
theorem fresh_of (w : Wk K H' as cs) (e : Ext as H H') {p : Addr} (h : H' p = none) : H p = none := e.dm p h
theorem Nw.back {H0 : Hp} (e : Ext as H0 H) (n : Nw H H' ex) : Nw H0 H' ex := ⟨n.lv, fun p hp => e.dm p (n.nw p hp)⟩
/-- new cells, seen from further on -/
theorem Nw.go (n : Nw H H' ex) {H2 : Hp} (e : Ext (ex ++ as) H' H2) (hd : ∀ b, H' b = none → H b = none) : Nw H H2 ex := ⟨fun i f q => (e.ev i f (by rw [List.getElem?_append_left (List.getElem?_eq_some_iff.mp q).1]; exact q) (n.lv i f q)).1, fun p hp => by
  obtain ⟨i, f, h1, h2⟩ := mem_hdl.mp hp
  rcases (e.ev i f (by rw [List.getElem?_append_left (List.getElem?_eq_some_iff.mp h1).1]; exact h1) (n.lv i f h1)).2 p h2 with g | g
  · exact n.nw p (mem_hdl.mpr ⟨i, f, h1, g⟩)
  · exact hd p g⟩
end

structure Sim (K : Frag) (as : List CA) (H : Hp) (D : Ends) (Dd : DN) : Prop where
  nx : ∀ ex σ' H' ρ' cs', Nw H H' ex → Ext as H H' → Wk K H' (ex ++ as) cs' → Ev K H' (ex ++ as) σ' ρ' → Dd.nx ex.length ρ' cs' → D.nx σ' H'
  bk : ∀ ex σ' H' ρ' cs', Nw H H' ex → Ext as H H' → Wk K H' (ex ++ as) cs' → Ev K H' (ex ++ as) σ' ρ' → Dd.bk ex.length ρ' cs' → D.bk σ' H'
  ct : ∀ ex σ' H' ρ' cs', Nw H H' ex → Ext as H H' → Wk K H' (ex ++ as) cs' → Ev K H' (ex ++ as) σ' ρ' → Dd.ct ex.length ρ' cs' → D.ct σ' H'
  rt : ∀ v H' x cs', Ext as H H' → Wk K H' as cs' → Dq K (hid H' (as.drop Dd.m)) v x → Dd.rt x cs' → D.rt v H'
  rf : ∀ p kd H' ds cs', Ext as H H' → (Nw H H' [⟨p, kd⟩] ∨ ∃ i, i < Dd.m ∧ as[i]? = some ⟨p, kd⟩) → Wk K H' (⟨p, kd⟩ :: as.drop Dd.m) (ds :: cs'.drop Dd.m) → Dd.rf kd ds cs' → D.rt (.ref p) H'

def SS (K : Frag) (E : XK) (t : TS) (d : DS) : Prop := ∀ (as : List CA) (σ : L2.St) (H : Hp) (ρ : List Sl) (cs : CS) (D : Ends) (Dd : DN),
  Wk K H as cs → Ev K H as σ ρ → EK K E Dd.ex as H → d Dd ρ cs → Sim K as H D Dd → t D σ H
structure QS (X : Cx) (E : XK) (s : Stmt) (d : DS) : Prop where
  ex : ∃ t, PS X s t ∧ SS X.K E t d
structure QSs (X : Cx) (E : XK) (s : List Stmt) (d : DS) : Prop where
  ex : ∃ t, PSs X s t ∧ SS X.K E t d

section
variable {K : Frag} {E : XK}
/-- the same, seen from further on, without new cells -/
theorem Sim.ext {as : List CA} {H H' : Hp} {cs : CS} {D : Ends} {Dd : DN} (S : Sim K as H D Dd) (w : Wk K H' as cs) (e : Ext as H H') : Sim K as H' D Dd :=
  ⟨fun ex σ' H2 ρ' cs' hf e2 w2 ev q => S.nx ex σ' H2 ρ' cs' (hf.back e) (e.trans e2) w2 ev q,
   fun ex σ' H2 ρ' cs' hf e2 w2 ev q => S.bk ex σ' H2 ρ' cs' (hf.back e) (e.trans e2) w2 ev q,
   fun ex σ' H2 ρ' cs' hf e2 w2 ev q => S.ct ex σ' H2 ρ' cs' (hf.back e) (e.trans e2) w2 ev q,
   fun v H2 x cs' e2 w2 d q => S.rt v H2 x cs' (e.trans e2) w2 d q,
   fun p kd H2 ds cs' e2 f w2 q => S.rf p kd H2 ds cs' (e.trans e2) (f.imp_left fun n => n.back e) w2 q⟩
/-- .. behind new cells -/
theorem Ext.cut {as ex : List CA} {H H1 H2 : Hp} (hf : Nw H H1 ex) (e : Ext as H H1) (e2 : Ext (ex ++ as) H1 H2) : Ext as H H2 := ⟨fun b o h q =>
  e2.sm b o (Vs.app ⟨hf.lv, fun r => by rw [hf.nw b r] at q; cases q⟩ (e.vs h q)) (e.sm b o h q), fun b h => e.dm b (e2.dm b h), fun i f h l => by
  obtain ⟨l1, h1⟩ := e.ev i f h l
  obtain ⟨l2, h2⟩ := e2.ev (ex.length + i) f (by rw [List.getElem?_append_right (by omega), show ex.length + i - ex.length = i by omega]; exact h) l1
  exact ⟨l2, fun b hb => (h2 b hb).elim (fun g => h1 b g) fun g => .inr (e.dm b g)⟩⟩
theorem Sim.push {as ex : List CA} {H H' : Hp} {cs : CS} {D : Ends} {Dd : DN} (S : Sim K as H D Dd) (hf : Nw H H' ex) (w : Wk K H' (ex ++ as) cs) (e : Ext as H H') : Sim K (ex ++ as) H' D (Dd.push ex.length) := by
  have fr : ∀ p, H' p = none → H p = none := e.dm
  have dr : (ex ++ as).drop (ex.length + Dd.m) = as.drop Dd.m := by
    rw [← List.drop_drop, List.drop_left]
  have fx : ∀ {ex2 : List CA} {H2 : Hp}, Nw H' H2 ex2 → Ext (ex ++ as) H' H2 → Nw H H2 (ex2 ++ ex) := fun h2 e2 => Nw.app ⟨h2.lv, fun p hp => fr p (h2.nw p hp)⟩ (hf.go e2 fr)
  refine ⟨fun ex2 σ' H2 ρ' cs' hf2 e2 w2 ev q => ?_, fun ex2 σ' H2 ρ' cs' hf2 e2 w2 ev q => ?_, fun ex2 σ' H2 ρ' cs' hf2 e2 w2 ev q => ?_, fun v H2 x cs' e2 w2 d q => ?_, fun p kd H2 ds cs' e2 f w2 q => ?_⟩
  · rw [← List.append_assoc] at w2 ev
    exact S.nx (ex2 ++ ex) σ' H2 ρ' cs' (fx hf2 e2) (e.cut hf e2) w2 ev (by rw [List.length_append]; exact q)
  · rw [← List.append_assoc] at w2 ev
    exact S.bk (ex2 ++ ex) σ' H2 ρ' cs' (fx hf2 e2) (e.cut hf e2) w2 ev (by rw [List.length_append]; exact q)
  · rw [← List.append_assoc] at w2 ev
    exact S.ct (ex2 ++ ex) σ' H2 ρ' cs' (fx hf2 e2) (e.cut hf e2) w2 ev (by rw [List.length_append]; exact q)
  · have d' : Dq K (hid H2 ((ex ++ as).drop (ex.length + Dd.m))) v x := d
    rw [dr] at d'
    exact S.rt v H2 x _ (e.cut hf e2) w2.drop d' q
  · have w3 : Wk K H2 (⟨p, kd⟩ :: (ex ++ as).drop (ex.length + Dd.m)) (ds :: cs'.drop (ex.length + Dd.m)) := w2
    rw [dr, ← List.drop_drop] at w3
    refine S.rf p kd H2 ds _ (e.cut hf e2) ?_ w3 q
    rcases f with f | ⟨i, f1, f2⟩
    · exact .inl (f.back e)
    · by_cases hi : i < ex.length
      · have f3 : ex[i]? = some ⟨p, kd⟩ := by rw [List.getElem?_append_left hi] at f2; exact f2
        refine .inl ((hf.go e2 fr).at_ f3)
      · refine .inr ⟨i - ex.length, ?_, ?_⟩
        · have f1' : i < ex.length + Dd.m := f1
          omega
        · rw [List.getElem?_append_right (by omega)] at f2
          exact f2
theorem EK.push {as ex : List CA} {H H' : Hp} {Dd : DN} (h : EK K E Dd.ex as H) (hf : Nw H H' ex) (e : Ext as H H') : EK K E (Dd.push ex.length).ex (ex ++ as) H' := fun C H2 cs2 e2 w2 q =>
  h C H2 _ (e.cut hf e2) w2.drop q

/-! ### blocks -/
def dSeq (d1 d2 : DS) : DS := fun Dd ρ cs => d1 { Dd with nx := fun k ρ' cs' => d2 (Dd.push k) ρ' cs' } ρ cs
def dNext : DS := fun Dd ρ cs => Dd.nx 0 ρ cs
theorem ss_seq {t u : TS} {d1 d2 : DS} (h1 : SS K E t d1) (h2 : SS K E u d2) : SS K E (tSeq t u) (dSeq d1 d2) := fun as σ H ρ cs D Dd w ev ek h S => by
  refine h1 as σ H ρ cs { D with nx := u D } { Dd with nx := fun k ρ' cs' => d2 (Dd.push k) ρ' cs' } w ev ek h ⟨fun ex σ' H' ρ' cs' hf e w' ev' q => ?_, S.bk, S.ct, S.rt, S.rf⟩
  exact h2 (ex ++ as) σ' H' ρ' cs' D (Dd.push ex.length) w' ev' (ek.push hf e) q (S.push hf w' e)
theorem ss_next : SS K E tNext dNext := fun as σ H ρ cs D Dd w ev ek h S => S.nx [] σ H ρ cs Nw.nil Ext.refl w ev h
variable {X : Cx}
theorem q_snil : QSs X E [] dNext := ⟨_, pss_nil, ss_next⟩
theorem q_scons {s : Stmt} {r : List Stmt} {d1 d2 : DS} (h1 : QS X E s d1) (h2 : QSs X E r d2) : QSs X E (s :: r) (dSeq d1 d2) := by
  obtain ⟨t, a1, a2⟩ := h1.ex
  obtain ⟨u, b1, b2⟩ := h2.ex
  exact ⟨_, pss_cons a1 b1, ss_seq a2 b2⟩
theorem q_sone {s : Stmt} {d : DS} (h1 : QS X E s d) : QSs X E [s] d := by
  obtain ⟨t, a1, a2⟩ := h1.ex
  exact ⟨_, pss_one a1, a2⟩
def dNever : DS := fun _ _ _ => False
theorem q_never {s : Stmt} : QS X E s dNever := ⟨_, ps_never, fun _ _ _ _ _ _ _ _ _ _ h _ => h.elim⟩
theorem q_pass {pos : Pos} : QS X E (.Pass pos) dNext := ⟨_, ps_pass, ss_next⟩
def dBrk : DS := fun Dd ρ cs => Dd.bk 0 ρ cs
def dCont : DS := fun Dd ρ cs => Dd.ct 0 ρ cs
theorem q_break {pos : Pos} : QS X E (.Break pos) dBrk := ⟨_, ps_break, fun as σ H ρ cs D Dd w ev ek h S => S.bk [] σ H ρ cs Nw.nil Ext.refl w ev h⟩
theorem q_cont {pos : Pos} : QS X E (.Continue pos) dCont := ⟨_, ps_continue, fun as σ H ρ cs D Dd w ev ek h S => S.ct [] σ H ρ cs Nw.nil Ext.refl w ev h⟩
def dDrop (da : DE) : DS := fun Dd ρ cs => da ρ cs Dd.ex fun _ cs1 => Dd.nx 0 ρ cs1
theorem q_expr {e : Expr} {pos : Pos} {da : DE} (ha : QE X E e da) (hs : swapsWith e none pos.line X.env = pure false := by rfl) : QS X E (.Expr e pos) (dDrop da) := by
  obtain ⟨ta, a1, a2⟩ := ha.ex
  exact ⟨_, ps_expr a1 hs, fun as σ H ρ cs D Dd w ev ek h S => a2 as σ H ρ cs Dd.ex _ _ w ev ek h fun v H1 x cs1 e1 w1 d1 h1 => S.nx [] σ H1 ρ cs1 Nw.nil e1 w1 (ev.ext e1) h1⟩
def dRet (da : DE) : DS := fun Dd ρ cs => da ρ cs Dd.ex fun x cs1 => Dd.rt x cs1
theorem hid_drop {H : Hp} {as : List CA} (m : Nat) : Same (hid H as) (hid H (as.drop m)) := fun b o h => by
  obtain ⟨h1, h2⟩ := hid_of h
  rw [hid_out (h1.drop m)]
  exact h2
theorem q_ret {e : Expr} {pos : Pos} {da : DE} (ha : QE X E e da) : QS X E (.Return (some e) pos) (dRet da) := by
  obtain ⟨ta, a1, a2⟩ := ha.ex
  exact ⟨_, ps_ret a1, fun as σ H ρ cs D Dd w ev ek h S => a2 as σ H ρ cs Dd.ex _ _ w ev ek h fun v H1 x cs1 e1 w1 d1 h1 => S.rt v H1 x cs1 e1 w1 (d1.mono (hid_drop _)) h1⟩
theorem Wk.ndrop {H : Hp} {as : List CA} {cs : CS} (w : Wk K H as cs) {j m : Nat} {f : CA} (hj : as[j]? = some f) (hm : j < m) : Vs H (as.drop m) f.a := by
  have w' : Wk K H (as.take m ++ as.drop m) cs := by rw [List.take_append_drop]; exact w
  exact w'.apart (j := j) (by rw [List.getElem?_take_of_lt hm]; exact hj)
theorem pr_dropn {α β : Type} {F : α → β → Prop} : ∀ {l : List α} {m : List β} (n : Nat), Paired F l m → Paired F (l.drop n) (m.drop n)
  | _, _, 0, h => h
  | _, _, _ + 1, .nil => .nil
  | _, _, n + 1, .cons _ t => pr_dropn n t
theorem mem_taken {as : List CA} {j m : Nat} {f : CA} (hj : as[j]? = some f) (hm : j < m) : f.a ∈ as.take m := by
  refine mem_at (j := j) ?_
  rw [List.getElem?_take_of_lt hm]
  exact hj
theorem adr_nodup {H : Hp} {f : CA} : ∀ {as : List CA} {j : Nat}, (hdl H as).Nodup → as[j]? = some f → (adr H f).Nodup
  | [], _, _, h => by simp at h
  | b :: r, 0, n, h => by
    cases (show some b = some f from h)
    rw [hdl_cons] at n
    exact (List.nodup_append.mp n).1
  | b :: r, j + 1, n, h => by
    rw [hdl_cons] at n
    exact adr_nodup (List.nodup_append.mp n).2.1 (show r[j]? = some f by simpa using h)
/-- one of the cells ahead of those behind -/
theorem Wk.pick {H : Hp} {as : List CA} {cs : CS} {j m : Nat} {f : CA} {ds : List PyData} (w : Wk K H as cs) (hj : as[j]? = some f) (hm : j < m) (hd : cs[j]? = some ds) : Wk K H (f :: as.drop m) (ds :: cs.drop m) := by
  have w' : Wk K H (as.take m ++ as.drop m) cs := by rw [List.take_append_drop]; exact w
  have hj' : (as.take m)[j]? = some f := by rw [List.getElem?_take_of_lt hm]; exact hj
  have hv := w'.aparts hj'
  have hs : Same (hid H as) (hid H (f :: as.drop m)) := fun b o hb => by
    obtain ⟨g1, g2⟩ := hid_of hb
    have hv : Vs H (f :: as.drop m) b := Vs.app (x := [f]) ⟨fun i g q => by
      cases i with
      | zero => cases q; exact w.lv j f hj
      | succ i => simp at q, fun z => by
        obtain ⟨i, g, q, z⟩ := mem_hdl.mp z
        cases i with
        | zero => cases q; exact g1.2 (mem_hdl.mpr ⟨j, f, hj, z⟩)
        | succ i => simp at q⟩ (g1.drop _)
    rw [hid_out hv]
    exact g2
  obtain ⟨g, hg1, hg2⟩ := pr_get w.cel hd
  rw [hj] at hg1
  cases hg1
  refine ⟨?_, .cons (hg2.move hs fun b _ o h => h) (pr_map (fun f ds q => q.move hs fun b _ o h => h) (pr_dropn m w.cel))⟩
  rw [hdl_cons]
  refine List.nodup_append.mpr ⟨adr_nodup w.nd hj, ?_, fun b hb c hc z => ?_⟩
  · have n := w'.nd
    rw [hdl_app] at n
    exact (List.nodup_append.mp n).2.1
  · rw [z] at hb
    exact (hv c hb).2 hc
/-- return x, x a name: data, or one of the def's own cells -/
def dRetV (i : Nat) : DS := fun Dd ρ cs => match ρ[i]? with
  | some (.d x) => Dd.rt x cs
  | some (.c j) => j < Dd.m ∧ ∃ ds, cs[j]? = some ds ∧ (Dd.rt (.list ds) cs ∨ Dd.rf .lst ds cs)
  | some (.o c j) => j < Dd.m ∧ ∃ ds, cs[j]? = some ds ∧ Dd.rf (.obj c) ds cs
  | _ => False
theorem q_retV {e : Expr} {pos : Pos} (i : Nat) (ha : PE X e (tVar i)) : QS X E (.Return (some e) pos) (dRetV i) := by
  refine ⟨_, ps_ret ha, fun as σ H ρ cs D Dd w ev ek h S => ?_⟩
  unfold dRetV at h
  cases q : ρ[i]? with
  | none => rw [q] at h; exact h.elim
  | some s =>
    rw [q] at h
    obtain ⟨o, ho, hs⟩ := pr_get ev q
    cases s with
    | no => exact h.elim
    | f ds => exact h.elim
    | k keys j => exact h.elim
    | g c es => exact h.elim
    | x _ => exact h.elim
    | fn _ => exact h.elim
    | lm _ => exact h.elim
    | o c j =>
      obtain ⟨a, h1, rfl⟩ := hs
      obtain ⟨hm, ds, h2, h3⟩ := h
      exact ⟨_, ho, S.rf a (.obj c) H ds cs Ext.refl (.inr ⟨j, hm, h1⟩) (w.pick h1 hm h2) h3⟩
    | d x =>
      obtain ⟨v, rfl, hv⟩ := hs
      exact ⟨v, ho, S.rt v H x cs Ext.refl w (hv.mono (hid_drop _)) h⟩
    | c j =>
      obtain ⟨a, h1, rfl⟩ := hs
      obtain ⟨hm, ds, h2, h3⟩ := h
      obtain ⟨xs, h5, h6⟩ := w.lst h1 h2
      have na := w.ndrop h1 hm
      refine ⟨_, ho, ?_⟩
      rcases h3 with h3 | h3
      · exact S.rt _ H _ cs Ext.refl w (.lst (by rw [hid_out na]; exact h5) (h6.mono (hid_drop _))) h3
      · exact S.rf a .lst H ds cs Ext.refl (.inr ⟨j, hm, h1⟩) (w.pick h1 hm h2) h3
def dRetN : DS := fun Dd _ cs => Dd.rt .none cs
theorem q_retN {pos : Pos} : QS X E (.Return none pos) dRetN := ⟨_, ps_retN, fun as σ H ρ cs D Dd w ev ek h S => S.rt .non H .none cs Ext.refl w .non h⟩
def dIfS (dt : DT) (d1 d2 : DS) : DS := fun Dd ρ cs => dt ρ cs Dd.ex fun b cs1 => if b = true then d1 Dd ρ cs1 else d2 Dd ρ cs1
theorem q_ifS {c : Expr} {a b : List Stmt} {pos : Pos} {dt : DT} {d1 d2 : DS} (hc : QT X E c dt) (ha : QSs X E a d1) (hb : QSs X E b d2) : QS X E (.If c a b pos) (dIfS dt d1 d2) := by
  obtain ⟨tc, c1, c2⟩ := hc.ex
  obtain ⟨ta, a1, a2⟩ := ha.ex
  obtain ⟨tb, b1, b2⟩ := hb.ex
  refine ⟨_, ps_if c1 a1 b1, fun as σ H ρ cs D Dd w ev ek h S => c2 as σ H ρ cs Dd.ex _ _ w ev ek h fun b H1 cs1 e1 w1 h1 => ?_⟩
  cases b with
  | true => exact iteT (a2 as σ H1 ρ cs1 D Dd w1 (ev.ext e1) (ek.ext e1) (by simpa using h1) (S.ext w1 e1))
  | false => exact iteF (b2 as σ H1 ρ cs1 D Dd w1 (ev.ext e1) (ek.ext e1) (by simpa using h1) (S.ext w1 e1))
/-! ### assignments -/
def dSet (i : Nat) (da : DE) : DS := fun Dd ρ cs => da ρ cs Dd.ex fun x cs1 => Dd.nx 0 (ρ.set i (.d x)) cs1
theorem ev_set {as : List CA} {σ : L2.St} {H : Hp} {ρ : List Sl} {v : V} {s : Sl} (e : Ev K H as σ ρ) (i : Nat) (h : SlOk K H as (some v) s) : Ev K H as (σ.set i (some v)) (ρ.set i s) := pr_set h i e
theorem q_set {e : Expr} {pos pos' : Pos} {da : DE} {x : Str} (i : Nat) (hN : X.N.Nodup) (ha : QE X E e da) (hi : X.N[i]? = some x := by rfl) (hx : Loc X.env.scope x := by first | exact Or.inl rfl | exact Or.inr rfl) (hs : swapsWith e (some (.Name x pos')) pos.line X.env = pure false := by rfl)
    (hf : X.fn x = true ∨ X.env.scope.names.lookup x = some .local := by first | exact .inl rfl | exact .inr rfl) : QS X E (.Assign [.Name x pos'] e pos) (dSet i da) := by
  obtain ⟨ta, a1, a2⟩ := ha.ex
  exact ⟨_, ps_set hN hi hx a1 hs hf, fun as σ H ρ cs D Dd w ev ek h S => a2 as σ H ρ cs Dd.ex _ _ w ev ek h fun v H1 z cs1 e1 w1 d1 h1 => S.nx [] _ H1 _ cs1 Nw.nil e1 w1 (ev_set (s := .d z) (ev.ext e1) i ⟨v, rfl, d1⟩) h1⟩
/-- a new list -/
abbrev DL := List Sl → CS → XD → (List PyData → CS → Prop) → Prop
def SN (K : Frag) (E : XK) (t : TE) (d : DL) : Prop := ∀ (as : List CA) (σ : L2.St) (H : Hp) (ρ : List Sl) (cs : CS) (Ed : XD) (Qd : List PyData → CS → Prop) (Q : VK),
  Wk K H as cs → Ev K H as σ ρ → EK K E Ed as H → d ρ cs Ed Qd → (∀ p H' ds cs', Ext as H H' → H p = none → Wk K H' (cl p :: as) (ds :: cs') → Qd ds cs' → Q (.ref p) H') → t σ H Q
structure QN (X : Cx) (E : XK) (e : Expr) (d : DL) : Prop where
  ex : ∃ t, PE X e t ∧ SN X.K E t d
theorem hid_cons {H : Hp} {as : List CA} {p : Addr} : Same (hid H (cl p :: as)) (hid H as) := hid_app (ex := [cl p])
def dOfN (d : DL) : DE := fun ρ cs Ed Q => d ρ cs Ed fun ds cs1 => Q (.list ds) cs1
theorem q_ofN {e : Expr} {d : DL} (h : QN X E e d) : QE X E e (dOfN d) := by
  obtain ⟨t, a1, a2⟩ := h.ex
  refine ⟨_, a1, fun as σ H ρ cs Ed Qd Q w ev ek h k => a2 as σ H ρ cs Ed _ _ w ev ek h fun p H' ds cs' e1 hp w1 h1 => ?_⟩
  cases w1.cel with
  | cons c1 c2 =>
    obtain ⟨xs, hp', d1⟩ := c1
    exact k _ H' _ cs' e1 (Wk.drop (ex := [cl p]) w1) (.lst (by rw [hid_out (Wk.apart (ex := [cl p]) w1 (j := 0) (f := cl p) rfl)]; exact hp') (d1.mono hid_cons)) h1
theorem new_cons {H : Hp} {as : List CA} {p : Addr} {o : HO} (h : H p = none) : Same (hid H as) (hid (upd H p o) (cl p :: as)) := hid_sh (ex := [cl p]) (Nw.lst h) (Ext.of (Same.new h))
theorem Wk.newc {H : Hp} {as : List CA} {cs : CS} {p : Addr} {xs : List V} {ds : List PyData} (w : Wk K H as cs) (hp : H p = none) (d : DqAll K (hid (upd H p (.lst xs)) (cl p :: as)) xs ds) : Wk K (upd H p (.lst xs)) (cl p :: as) (ds :: cs) :=
  ⟨(show (p :: hdl (upd H p (.lst xs)) as).Nodup by
    rw [hdl_same w.lv (Same.new hp)]
    exact List.nodup_cons.mpr ⟨(w.fresh hp).2, w.nd⟩), .cons ⟨xs, upd_same, d⟩ (pr_map (fun f ds q => q.move (new_cons hp) fun b _ o h => (Same.new hp) _ _ h) w.cel)⟩
def dNlst (da : DA) : DL := fun ρ cs Ed Q => da ρ cs Ed fun ss cs1 => match allD ss with
  | some ds => ds.length ≤ sizeLine ∧ Q ds cs1
  | none => False
theorem q_nlst {es : List Expr} {pos : Pos} {da : DA} (ha : QA X E es da) : QN X E (.List es pos) (dNlst da) := by
  obtain ⟨ta, a1, a2⟩ := ha.ex
  refine ⟨_, pe_lst a1, fun as σ H ρ cs Ed Qd Q w e ek h k => a2 as σ H ρ cs Ed _ _ w e ek h fun vs H1 ss cs1 e1 w1 d1 h1 => ?_⟩
  cases q : allD ss with
  | none => rw [q] at h1; exact h1.elim
  | some ds =>
    rw [q] at h1
    have d2 := allD_ok d1 q
    exact ⟨by rw [d2.len]; exact h1.1, fun p hp => k p _ ds cs1 (e1.trans (Ext.of (Same.new hp))) (fresh_of w1 e1 hp) (w1.newc hp (d2.mono (new_cons hp))) h1.2⟩
/-- x = a new list: a cell of one's own -/
def dNew (i : Nat) (d : DL) : DS := fun Dd ρ cs => d ρ cs Dd.ex fun ds cs1 => Dd.nx 1 ((ρ.map (shSl 1)).set i (.c 0)) (ds :: cs1)
theorem q_new {e : Expr} {pos pos' : Pos} {d : DL} {x : Str} (i : Nat) (hN : X.N.Nodup) (ha : QN X E e d) (hi : X.N[i]? = some x := by rfl) (hx : Loc X.env.scope x := by first | exact Or.inl rfl | exact Or.inr rfl) (hs : swapsWith e (some (.Name x pos')) pos.line X.env = pure false := by rfl)
    (hf : X.fn x = true ∨ X.env.scope.names.lookup x = some .local := by first | exact .inl rfl | exact .inr rfl) : QS X E (.Assign [.Name x pos'] e pos) (dNew i d) := by
  obtain ⟨ta, a1, a2⟩ := ha.ex
  refine ⟨_, ps_set hN hi hx a1 hs hf, fun as σ H ρ cs D Dd w ev ek h S => a2 as σ H ρ cs Dd.ex _ _ w ev ek h fun p H1 ds cs1 e1 hp w1 h1 => ?_⟩
  have hf1 : Nw H H1 [cl p] := Nw.lst hp
  exact S.nx [cl p] _ H1 _ (ds :: cs1) hf1 e1 w1 (ev_set (s := .c 0) (Ev.sh hf1 ev e1) i ⟨p, rfl, rfl⟩) h1
end
end Kp

namespace Kp
open PySem PySem.Spec PyProof.Rows L2
section
variable {K : Frag} {E : XK} {X : Cx}
/-! ### cells change -/
/-- a cell that is no object is written: what is hidden stays hidden -/
theorem adr_put {H : Hp} {as : List CA} {cs : CS} {f : CA} {j : Nat} {o : HO} (w : Wk K H as cs) (hj : as[j]? = some f) (hn : adr (upd H f.a o) f = adr H f) : ∀ (i : Nat) (g : CA), as[i]? = some g → adr (upd H f.a o) g = adr H g := fun i g hi => by
  by_cases q : g.a = f.a
  · have e : i = j := by
      have n := w.nd
      have go : ∀ {l : List CA} {i j : Nat}, (hdl H l).Nodup → l[i]? = some g → l[j]? = some f → i = j := by
        intro l
        induction l with
        | nil => intro i j _ h; simp at h
        | cons b r ih =>
          intro i j hn h1 h2
          rw [hdl_cons] at hn
          obtain ⟨_, n2, n3⟩ := List.nodup_append.mp hn
          cases i with
          | zero =>
            cases j with
            | zero => rfl
            | succ j =>
              have e1 : b = g := by simpa using h1
              have e2 : r[j]? = some f := by simpa using h2
              exact absurd q (n3 _ (by rw [e1]; exact adr_self) _ (mem_hdl.mpr ⟨j, f, e2, adr_self⟩))
          | succ i =>
            have e1 : r[i]? = some g := by simpa using h1
            cases j with
            | zero =>
              have e2 : b = f := by simpa using h2
              exact absurd q.symm (n3 _ (by rw [e2]; exact adr_self) _ (mem_hdl.mpr ⟨i, g, e1, adr_self⟩))
            | succ j =>
              have e2 : r[j]? = some f := by simpa using h2
              rw [ih n2 e1 e2]
      exact go n hi hj
    rw [e, hj] at hi
    cases hi
    exact hn
  · exact adr_upd q
theorem adr_plain {H H' : Hp} {f : CA} (h : f.kd = .lst ∨ ∃ ks, f.kd = .dic ks) : adr H' f = adr H f := by
  obtain ⟨a, kd⟩ := f
  rcases h with h | ⟨ks, h⟩
  · cases (show kd = _ from h); rfl
  · cases (show kd = _ from h); rfl
theorem own_plain {H : Hp} {f : CA} (h : f.kd = .lst ∨ ∃ ks, f.kd = .dic ks) : (ownL H f).isSome = true := by
  obtain ⟨a, kd⟩ := f
  rcases h with h | ⟨ks, h⟩
  · cases (show kd = _ from h); rfl
  · cases (show kd = _ from h); rfl
/-- .. of any kind, whose own lists stay -/
theorem ext_updO {H : Hp} {as : List CA} {cs : CS} {f : CA} {j : Nat} {o : HO} (w : Wk K H as cs) (hj : as[j]? = some f) (hn : adr (upd H f.a o) f = adr H f) (hl : (ownL (upd H f.a o) f).isSome = true) : Ext as H (upd H f.a o) := by
  have hp := adr_put (o := o) w hj hn
  have hlv : ∀ (i : Nat) (g : CA), as[i]? = some g → (ownL (upd H f.a o) g).isSome = true := fun i g hi => by
    by_cases q : g.a = f.a
    · have e : ownL (upd H f.a o) g = ownL (upd H f.a o) g := rfl
      have n := w.nd
      by_cases z : i = j
      · rw [z, hj] at hi; cases hi; exact hl
      · exfalso
        have go : ∀ {l : List CA} {i j : Nat}, i ≠ j → (hdl H l).Nodup → l[i]? = some g → l[j]? = some f → False := by
          intro l
          induction l with
          | nil => intro i j _ _ h; simp at h
          | cons b r ih =>
            intro i j hij hn h1 h2
            rw [hdl_cons] at hn
            obtain ⟨_, n2, n3⟩ := List.nodup_append.mp hn
            cases i with
            | zero =>
              cases j with
              | zero => exact hij rfl
              | succ j =>
                have e1 : b = g := by simpa using h1
                have e2 : r[j]? = some f := by simpa using h2
                exact n3 _ (by rw [e1]; exact adr_self) _ (mem_hdl.mpr ⟨j, f, e2, adr_self⟩) q
            | succ i =>
              have e1 : r[i]? = some g := by simpa using h1
              cases j with
              | zero =>
                have e2 : b = f := by simpa using h2
                exact n3 _ (by rw [e2]; exact adr_self) _ (mem_hdl.mpr ⟨i, g, e1, adr_self⟩) q.symm
              | succ j =>
                have e2 : r[j]? = some f := by simpa using h2
                exact ih (fun z => hij (by rw [z])) n2 e1 e2
        exact go z n hi hj
    · rw [own_upd q]; exact w.lv i g hi
  refine ⟨fun b u nb e => ?_, fun b hb => ?_, fun i g hi _ => ⟨hlv i g hi, fun b hb => .inl (by rw [← hp i g hi]; exact hb)⟩⟩
  · rw [upd_ne fun z => nb.out (by rw [z]; exact mem_at hj)]
    exact e
  · cases q : H b with
    | none => rfl
    | some u =>
      by_cases z : b = f.a
      · rw [z, upd_same] at hb; cases hb
      · rw [upd_ne z, q] at hb; cases hb
theorem ext_upd {H : Hp} {as : List CA} {cs : CS} {a : Addr} {j : Nat} {o : HO} (w : Wk K H as cs) (hj : as[j]? = some ⟨a, .lst⟩) : Ext as H (upd H a o) := ext_updO (f := ⟨a, .lst⟩) w hj rfl rfl
theorem ext_updK {H : Hp} {as : List CA} {cs : CS} {a : Addr} {ks : List Str} {j : Nat} {o : HO} (w : Wk K H as cs) (hj : as[j]? = some ⟨a, .dic ks⟩) : Ext as H (upd H a o) := ext_updO (f := ⟨a, .dic ks⟩) w hj rfl rfl
theorem hid_updO {H : Hp} {as : List CA} {cs : CS} {f : CA} {j : Nat} {o : HO} (w : Wk K H as cs) (hj : as[j]? = some f) (hn : adr (upd H f.a o) f = adr H f) (hl : (ownL (upd H f.a o) f).isSome = true) : hid (upd H f.a o) as = hid H as := by
  have ex := ext_updO w hj hn hl
  have hp := adr_put (o := o) w hj hn
  have e1 : hdl (upd H f.a o) as = hdl H as := hdl_eq hp
  have lv := ex.lv w.lv
  funext b
  by_cases q : b ∈ hdl H as
  · have n1 : ¬ Vs H as b := fun z => z.2 q
    have n2 : ¬ Vs (upd H f.a o) as b := fun z => z.2 (by rw [e1]; exact q)
    unfold hid
    rw [if_neg n1, if_neg n2]
  · rw [hid_out ⟨w.lv, q⟩, hid_out ⟨lv, by rw [e1]; exact q⟩, upd_ne fun z => q (by rw [z]; exact mem_hdl.mpr ⟨j, f, hj, adr_self⟩)]
theorem hid_upd {H : Hp} {as : List CA} {cs : CS} {a : Addr} {j : Nat} {o : HO} (w : Wk K H as cs) (hj : as[j]? = some ⟨a, .lst⟩) : hid (upd H a o) as = hid H as := hid_updO (f := ⟨a, .lst⟩) w hj rfl rfl
theorem hid_updK {H : Hp} {as : List CA} {cs : CS} {a : Addr} {ks : List Str} {j : Nat} {o : HO} (w : Wk K H as cs) (hj : as[j]? = some ⟨a, .dic ks⟩) : hid (upd H a o) as = hid H as := hid_updO (f := ⟨a, .dic ks⟩) w hj rfl rfl
theorem Wk.putO {H : Hp} {as : List CA} {cs : CS} {f : CA} {j : Nat} {o : HO} {ds : List PyData} (w : Wk K H as cs) (hj : as[j]? = some f) (hn : adr (upd H f.a o) f = adr H f) (hl : (ownL (upd H f.a o) f).isSome = true) (d : CelOk K (upd H f.a o) as f ds) : Wk K (upd H f.a o) as (cs.set j ds) := by
  have sm : Same (hid H as) (hid (upd H f.a o) as) := by rw [hid_updO w hj hn hl]; exact Same.refl _
  refine ⟨by rw [hdl_eq (adr_put w hj hn)]; exact w.nd, ?_⟩
  have go : ∀ {l : List CA} {m : CS} (i : Nat), (hdl H l).Nodup → Paired (CelOk K H as) l m → l[i]? = some f → Paired (CelOk K (upd H f.a o) as) l (m.set i ds) := by
    intro l
    induction l with
    | nil => intro m i _ _ e; simp at e
    | cons b r ih =>
      intro m i hn h e
      cases h with
      | cons c t =>
        rw [hdl_cons] at hn
        obtain ⟨n1, n2, n3⟩ := List.nodup_append.mp hn
        cases i with
        | zero =>
          have eb : b = f := by simpa using e
          subst eb
          refine .cons d (pr_mapm (fun q es hq c => c.move sm fun b' hb o' h => ?_) t)
          obtain ⟨i, hi⟩ := List.getElem?_of_mem hq
          rw [upd_ne fun z => n3 _ adr_self _ (mem_hdl.mpr ⟨i, q, hi, hb⟩) z.symm]
          exact h
        | succ i =>
          have e' : r[i]? = some f := by simpa using e
          refine .cons (c.move sm fun b' hb o' h => ?_) (ih i n2 t e')
          rw [upd_ne fun z => n3 _ hb _ (mem_hdl.mpr ⟨i, f, e', adr_self⟩) z]
          exact h
  exact go j w.nd w.cel hj
theorem Wk.put {H : Hp} {as : List CA} {cs : CS} {a : Addr} {j : Nat} {xs : List V} {ds : List PyData} (w : Wk K H as cs) (hj : as[j]? = some ⟨a, .lst⟩) (d : DqAll K (hid H as) xs ds) : Wk K (upd H a (.lst xs)) as (cs.set j ds) :=
  w.putO (f := ⟨a, .lst⟩) hj rfl rfl ⟨xs, upd_same, by rw [hid_upd w hj]; exact d⟩
/-- x[e] = e', x a name of a cell -/
def dStore (i : Nat) (di dv : DE) : DS := fun Dd ρ cs => dv ρ cs Dd.ex fun x cs1 => match ρ[i]? with
  | some (.c j) => di ρ cs1 Dd.ex fun y cs2 => match y with
    | .int n => ∃ ds k, cs2[j]? = some ds ∧ ixN ds.length n = some k ∧ Dd.nx 0 ρ (cs2.set j (ds.set k x))
    | _ => False
  | _ => False
theorem q_store {o ie e : Expr} {pos p2 : Pos} {di dv : DE} (i : Nat) (ho : PE X o (tVar i)) (hi : QE X E ie di) (hv : QE X E e dv)
    (ha : ∀ v, assign (.Subscript o ie p2) X.env v = (do
      let ov ← holding [v] (eval o X.env)
      let iv ← holding [v, ov] (eval ie X.env)
      standAt p2
      holding [v, ov, iv] (setItem ov iv v)
      release [v, ov, iv] []) := by intro _; rfl)
    (hs : swapsWithSole [.Subscript o ie p2] e pos.line X.env = pure false := by rfl) (hw : swappedStores [.Subscript o ie p2] e X.env = pure none := by rfl)
    (h1 : (assignEach [.Subscript o ie p2] X.env).map (·.2) = [assign (.Subscript o ie p2) X.env] := by rfl) : QS X E (.Assign [.Subscript o ie p2] e pos) (dStore i di dv) := by
  obtain ⟨ti, i1, i2⟩ := hi.ex
  obtain ⟨tv, v1, v2⟩ := hv.ex
  refine ⟨_, ps_asg v1 (pg_sub ho i1 set_list ha) hs hw h1, fun as σ H ρ cs D Dd w ev ek h S => v2 as σ H ρ cs Dd.ex _ _ w ev ek h fun v H1 x cs1 e1 w1 d1 h1 => ?_⟩
  cases q : ρ[i]? with
  | none => rw [q] at h1; exact h1.elim
  | some s =>
    rw [q] at h1
    obtain ⟨o, hoo, hs⟩ := pr_get ev q
    cases s with
    | c j =>
      obtain ⟨a, g1, rfl⟩ := hs
      refine ⟨_, hoo, i2 as σ H1 ρ cs1 Dd.ex _ _ w1 (ev.ext e1) (ek.ext e1) h1 fun u H2 y cs2 e2 w2 d2 h2 => ?_⟩
      cases d2 <;> try exact h2.elim
      obtain ⟨ds, k, g2, g3, g4⟩ := h2
      obtain ⟨xs, g6, g7⟩ := w2.lst g1 g2
      have ha : a ∈ as := mem_at g1
      refine ⟨a, xs, _, k, rfl, rfl, g6, by rw [g7.len]; exact g3, ?_⟩
      exact S.nx [] σ _ ρ _ Nw.nil ((e1.trans e2).trans (ext_upd w2 g1)) (w2.put g1 (g7.set (d1.mono e2.hid) k)) (((ev.ext e1).ext e2).ext (ext_upd w2 g1)) g4
    | _ => exact h1.elim
/-- x.append(e), x a name of a cell -/
def dApp (i : Nat) (dv : DE) : DS := fun Dd ρ cs => match ρ[i]? with
  | some (.c j) => (cs[j]?).isSome = true ∧ dv ρ cs Dd.ex fun x cs1 => ∃ ds, cs1[j]? = some ds ∧ ds.length < sizeLine ∧ Dd.nx 0 ρ (cs1.set j (ds ++ [x]))
  | _ => False
theorem q_app {o e : Expr} {pos apos cpos : Pos} {dv : DE} (i : Nat) (ho : PE X o (tVar i)) (hv : QE X E e dv)
    (hs0 : swapsWith (.Call (.Attribute o "append" apos) [e] [] cpos) none pos.line X.env = pure false := by rfl)
    (hbase : attributeBase o "append" X.env (eval o X.env) = eval o X.env := by rfl)
    (hfew : ((backTo cpos (starEach [e] X.env)).all (fun x => !x.1) && (backToKw cpos (keywordEach [] X.env)).all (fun x => x.1.isSome)
      && decide (([e] : List Expr).length + ([] : List Keyword).length + (if ([] : List Keyword).isEmpty then 0 else 1) < 30)) = true := by rfl)
    (hline : (apos.endLine == cpos.line) = true := by rfl) (hs : starEach [e] X.env = (false, eval e X.env) :: starEach [] X.env := by rfl) (hplain : (backTo cpos (starEach [] X.env)).any (·.1) = false := by rfl) :
    QS X E (.Expr (.Call (.Attribute o "append" apos) [e] [] cpos) pos) (dApp i dv) := by
  obtain ⟨tv, v1, v2⟩ := hv.ex
  refine ⟨_, ps_expr (pe_bm PySem.F.plainAttrs_list PySem.F.slot_list_append PySem.F.type_list_append mt_append ho (pa_cons v1 pa_nil hs) hbase hfew hline hs hplain) hs0, fun as σ H ρ cs D Dd w ev ek h S => ?_⟩
  unfold dApp at h
  cases q : ρ[i]? with
  | none => rw [q] at h; exact h.elim
  | some s =>
    rw [q] at h
    obtain ⟨o, hoo, hss⟩ := pr_get ev q
    cases s with
    | c j =>
      obtain ⟨a, g1, rfl⟩ := hss
      obtain ⟨h0, h⟩ := h
      obtain ⟨ds0, hd0⟩ := Option.isSome_iff_exists.mp h0
      obtain ⟨xs0, g00, _⟩ := w.lst g1 hd0
      refine ⟨_, hoo, .inl ⟨rfl, xs0, SqL.of g00⟩, v2 as σ H ρ cs Dd.ex _ _ w ev ek h fun v H1 x cs1 e1 w1 d1 h1 => ?_⟩
      obtain ⟨ds, g2, g3, g4⟩ := h1
      obtain ⟨xs, g6, g7⟩ := w1.lst g1 g2
      have ha : a ∈ as := mem_at g1
      exact ⟨a, xs, v, rfl, rfl, g6, by rw [g7.len]; exact g3, S.nx [] σ _ ρ _ Nw.nil (e1.trans (ext_upd w1 g1)) (w1.put g1 (g7.app (.one d1))) ((ev.ext e1).ext (ext_upd w1 g1)) g4⟩
    | _ => exact h.elim

/-! ### several names -/
def gNames : List Nat → TGs
  | [] => gNil
  | i :: r => gCons (gName i) (gNames r)
def setAll : List Nat → List PyData → List Sl → Option (List Sl)
  | [], [], ρ => some ρ
  | i :: is, x :: xs, ρ => setAll is xs (ρ.set i (.d x))
  | _, _, _ => none
theorem names_ok {as : List CA} {H : Hp} {Q : L2.St → Hp → Prop} : ∀ {is : List Nat} {vs : List V} {ds : List PyData} {σ : L2.St} {ρ ρ' : List Sl}, Ev K H as σ ρ → DqAll K (hid H as) vs ds → setAll is ds ρ = some ρ' → (∀ σ', Ev K H as σ' ρ' → Q σ' H) → gNames is vs σ H Q
  | [], _, _, σ, ρ, ρ', ev, .nil, h, k => by
    cases (show some ρ = some ρ' from h)
    exact ⟨rfl, k σ ev⟩
  | i :: is, _, _, σ, ρ, ρ', ev, .cons d ds, h, k => ⟨_, _, rfl, names_ok (is := is) (ev_set (s := .d _) ev i ⟨_, rfl, d⟩) ds h k⟩
  | [], _, _, _, _, _, _, .cons _ _, h, _ => by cases h
  | _ :: _, _, _, _, _, _, _, .nil, h, _ => by cases h
theorem setAll_len : ∀ {is : List Nat} {ds : List PyData} {ρ ρ' : List Sl}, setAll is ds ρ = some ρ' → ds.length = is.length
  | [], [], _, _, _ => rfl
  | _ :: is, _ :: ds, _, _, h => by
    rw [List.length_cons, List.length_cons, setAll_len (is := is) (ds := ds) h]
  | [], _ :: _, _, _, h => by cases h
  | _ :: _, [], _, _, h => by cases h
theorem pg_or {tg : Expr} {t u : TG} (h1 : PG X tg t) (h2 : PG X tg u) : PG X tg (fun v σ H Q => t v σ H Q ∨ u v σ H Q) :=
  ⟨fun pins s σ H v w Q I r q => q.elim (h1.run pins s σ H v w Q I r) (h2.run pins s σ H v w Q I r)⟩
/-- a, b, .. = e: e a tuple, a list -/
def dUnp (is : List Nat) (da : DE) : DS := fun Dd ρ cs => da ρ cs Dd.ex fun x cs1 => match x with
  | .tuple ds => ∃ ρ', setAll is ds ρ = some ρ' ∧ Dd.nx 0 ρ' cs1
  | .list ds => ∃ ρ', setAll is ds ρ = some ρ' ∧ Dd.nx 0 ρ' cs1
  | _ => False
theorem q_unp {es : List Expr} {k : Nat} {e : Expr} {pos p2 : Pos} {da : DE} (is : List Nat) (hc : X.calm = true) (hg : PGs X es (gNames is)) (ha : QE X E e da)
    (hn : (assignEach es X.env).length = is.length := by rfl) (hst : (assignEach es X.env).findIdx? (·.1) = none := by rfl)
    (hs : swapsWithSole [.Tuple es k p2] e pos.line X.env = pure false := by rfl) (hw : swappedStores [.Tuple es k p2] e X.env = pure none := by rfl)
    (h1 : (assignEach [.Tuple es k p2] X.env).map (·.2) = [assign (.Tuple es k p2) X.env] := by rfl) : QS X E (.Assign [.Tuple es k p2] e pos) (dUnp is da) := by
  obtain ⟨ta, a1, a2⟩ := ha.ex
  refine ⟨_, ps_asg a1 (pg_or (pg_tup hc hg hn hst) (pg_unl hc hg hn hst)) hs hw h1, fun as σ H ρ cs D Dd w ev ek h S => a2 as σ H ρ cs Dd.ex _ _ w ev ek h fun v H1 x cs1 e1 w1 d1 h1 => ?_⟩
  cases d1 with
  | tup g1 g2 =>
    obtain ⟨ρ', h2, h3⟩ := h1
    exact .inl ⟨_, _, rfl, hidT g1, by rw [g2.len]; exact setAll_len h2, names_ok (ev.ext e1) g2 h2 fun σ' ev' => S.nx [] σ' H1 ρ' cs1 Nw.nil e1 w1 ev' h3⟩
  | lst g1 g2 =>
    obtain ⟨ρ', h2, h3⟩ := h1
    exact .inr ⟨_, _, rfl, SqL.of (hid1 g1), by rw [g2.len]; exact setAll_len h2, names_ok (ev.ext e1) g2 h2 fun σ' ev' => S.nx [] σ' H1 ρ' cs1 Nw.nil e1 w1 ev' h3⟩
  | _ => exact h1.elim
/-- a, b = x, y; a, b, c = x, y, z: plain local names -/
def dPar (is : List Nat) (da : DA) : DS := fun Dd ρ cs => da ρ cs Dd.ex fun ss cs1 => match allD ss with
  | some ds => ∃ ρ', setAll is ds ρ = some ρ' ∧ Dd.nx 0 ρ' cs1
  | none => False
theorem q_par2 {i j : Nat} {x y : Str} {a b : Expr} {px py pt pos : Pos} {kt k2 : Nat} {pt2 : Pos} {da : DA} (hc : X.calm = true) (hN : X.N.Nodup) (ha : QA X E [a, b] da) (hi : X.N[i]? = some x := by rfl) (hj : X.N[j]? = some y := by rfl) (hij : i ≠ j := by decide)
    (hx : X.env.scope.names.lookup x = some .local := by rfl) (hy : X.env.scope.names.lookup y = some .local := by rfl)
    (hw : swappedStores [.Tuple [.Name x px, .Name y py] kt pt] (.Tuple [a, b] k2 pt2) X.env = pure (some [x, y]) := by rfl)
    (hs : swapsWithSole [.Tuple [.Name x px, .Name y py] kt pt] (.Tuple [a, b] k2 pt2) pos.line X.env = pure false := by rfl) :
    QS X E (.Assign [.Tuple [.Name x px, .Name y py] kt pt] (.Tuple [a, b] k2 pt2) pos) (dPar [i, j] da) := by
  obtain ⟨ta, a1, a2⟩ := ha.ex
  refine ⟨_, ps_par hc hN hi hj hij hx hy a1 hw hs, fun as σ H ρ cs D Dd w ev ek h S => a2 as σ H ρ cs Dd.ex _ _ w ev ek h fun vs H1 ss cs1 e1 w1 d1 h1 => ?_⟩
  cases q : allD ss with
  | none => rw [q] at h1; exact h1.elim
  | some ds =>
    rw [q] at h1
    obtain ⟨ρ', h2, h3⟩ := h1
    have d2 := allD_ok d1 q
    match ds, d2, h2 with
    | [_, _], .cons z1 (.cons z2 .nil), h2 =>
      cases (show some _ = some ρ' from h2)
      exact ⟨_, _, rfl, S.nx [] _ H1 _ cs1 Nw.nil e1 w1 (ev_set (s := .d _) (ev_set (s := .d _) (ev.ext e1) i ⟨_, rfl, z1⟩) j ⟨_, rfl, z2⟩) h3⟩
theorem q_par3 {i j l : Nat} {x y z : Str} {a b c : Expr} {px py pz pt pos : Pos} {kt k2 : Nat} {pt2 : Pos} {da : DA} (hc : X.calm = true) (hN : X.N.Nodup) (ha : QA X E [a, b, c] da) (hi : X.N[i]? = some x := by rfl) (hj : X.N[j]? = some y := by rfl) (hl : X.N[l]? = some z := by rfl)
    (hij : i ≠ j := by decide) (hil : i ≠ l := by decide) (hjl : j ≠ l := by decide)
    (hx : X.env.scope.names.lookup x = some .local := by rfl) (hy : X.env.scope.names.lookup y = some .local := by rfl) (hz : X.env.scope.names.lookup z = some .local := by rfl)
    (hw : swappedStores [.Tuple [.Name x px, .Name y py, .Name z pz] kt pt] (.Tuple [a, b, c] k2 pt2) X.env = pure (some [x, y, z]) := by rfl)
    (hs : swapsWithSole [.Tuple [.Name x px, .Name y py, .Name z pz] kt pt] (.Tuple [a, b, c] k2 pt2) pos.line X.env = pure false := by rfl) :
    QS X E (.Assign [.Tuple [.Name x px, .Name y py, .Name z pz] kt pt] (.Tuple [a, b, c] k2 pt2) pos) (dPar [i, j, l] da) := by
  obtain ⟨ta, a1, a2⟩ := ha.ex
  refine ⟨_, ps_par3 hc hN hi hj hl hij hil hjl hx hy hz a1 hw hs, fun as σ H ρ cs D Dd w ev ek h S => a2 as σ H ρ cs Dd.ex _ _ w ev ek h fun vs H1 ss cs1 e1 w1 d1 h1 => ?_⟩
  cases q : allD ss with
  | none => rw [q] at h1; exact h1.elim
  | some ds =>
    rw [q] at h1
    obtain ⟨ρ', h2, h3⟩ := h1
    have d2 := allD_ok d1 q
    match ds, d2, h2 with
    | [_, _, _], .cons z1 (.cons z2 (.cons z3 .nil)), h2 =>
      cases (show some _ = some ρ' from h2)
      exact ⟨_, _, _, rfl, S.nx [] _ H1 _ cs1 Nw.nil e1 w1 (ev_set (s := .d _) (ev_set (s := .d _) (ev_set (s := .d _) (ev.ext e1) i ⟨_, rfl, z1⟩) j ⟨_, rfl, z2⟩) l ⟨_, rfl, z3⟩) h3⟩
/-- x += e of ints -/
def dAug (g : Int → Int → Int) (i : Nat) (da : DE) : DS := fun Dd ρ cs => match ρ[i]? with
  | some (.d (.int n)) => da ρ cs Dd.ex fun x cs1 => match x with
    | .int k => Dd.nx 0 (ρ.set i (.d (.int (g n k)))) cs1
    | _ => False
  | _ => False
theorem q_aug {e : Expr} {pos pos' : Pos} {da : DE} {x : Str} {op : Operator} {g : Int → Int → Int} (i : Nat) (hop : PIp X op (ipI g)) (hN : X.N.Nodup) (ha : QE X E e da) (hi : X.N[i]? = some x := by rfl) (hx : Loc X.env.scope x := by first | exact Or.inl rfl | exact Or.inr rfl)
    (hf : X.fn x = true ∨ X.env.scope.names.lookup x = some .local := by first | exact .inl rfl | exact .inr rfl) : QS X E (.AugAssign (.Name x pos') op e pos) (dAug g i da) := by
  obtain ⟨ta, a1, a2⟩ := ha.ex
  refine ⟨_, ps_aug hN hi hx a1 hop hf, fun as σ H ρ cs D Dd w ev ek h S => ?_⟩
  unfold dAug at h
  cases q : ρ[i]? with
  | none => rw [q] at h; exact h.elim
  | some s =>
    rw [q] at h
    obtain ⟨o, hoo, hss⟩ := pr_get ev q
    cases s with
    | d x =>
      cases x with
      | int n =>
        obtain ⟨v, rfl, hv⟩ := hss
        cases hv
        refine ⟨_, hoo, a2 as σ H ρ cs Dd.ex _ _ w ev ek h fun v H1 x cs1 e1 w1 d1 h1 => ?_⟩
        cases d1 <;> try exact h1.elim
        exact ⟨_, _, rfl, rfl, S.nx [] _ H1 _ cs1 Nw.nil e1 w1 (ev_set (s := .d _) (ev.ext e1) i ⟨_, rfl, .int _⟩) h1⟩
      | _ => exact h.elim
    | _ => exact h.elim

/-! ### loops -/
/-- n turns, the t-th item in slot i; Inv by turns; what a turn made as cells is data behind it -/
def dLoop (n : Nat) (item : Nat → PyData) (is : List Nat) (body : DS) : DS := fun Dd ρ cs => ∃ Inv : Nat → List Sl → CS → Prop, Inv 0 ρ cs ∧
  (∀ t ρ cs, t < n → Inv t ρ cs → ∃ ρ', setAll is [item t] ρ = some ρ' ∧ body { Dd with nx := fun k ρ' cs' => Inv (t + 1) (ρ'.map (disSl k cs')) (cs'.drop k), ct := fun k ρ' cs' => Inv (t + 1) (ρ'.map (disSl k cs')) (cs'.drop k), bk := Dd.nx } ρ' cs) ∧
  ∀ ρ cs, Inv n ρ cs → Dd.nx 0 ρ cs
def dForR1 (da : DA) (i : Nat) (body : DS) : DS := fun Dd ρ cs => da ρ cs Dd.ex fun ss cs1 => match allD ss with
  | some [.int n] => -(2 ^ 62) ≤ n ∧ n < 2 ^ 62 ∧ dLoop n.toNat (fun t => .int t) [i] body Dd ρ cs1
  | _ => False
def dForR2 (da : DA) (i : Nat) (body : DS) : DS := fun Dd ρ cs => da ρ cs Dd.ex fun ss cs1 => match allD ss with
  | some [.int a, .int b] => (-(2 ^ 62) ≤ a ∧ a < 2 ^ 62 ∧ -(2 ^ 62) ≤ b ∧ b < 2 ^ 62) ∧ dLoop (b - a).toNat (fun t => .int (a + t)) [i] body Dd ρ cs1
  | _ => False
theorem range_loop {as : List CA} {H : Hp} {ρ : List Sl} {cs : CS} {σ : L2.St} {D : Ends} {Dd : DN} {i n : Nat} {lo : Int} {tb : TS} {db : DS} (w : Wk K H as cs) (ev : Ev K H as σ ρ) (ek : EK K E Dd.ex as H) (b2 : SS K E tb db) (S : Sim K as H D Dd)
    (h : dLoop n (fun t => .int (lo + t)) [i] db Dd ρ cs) : ∃ W : Nat → Nat → L2.St → Hp → Prop, (∃ m, W 0 m σ H) ∧ ∀ i' m σ H, W i' m σ H →
      ((Itr lo n).stop i' H ∧ D.nx σ H) ∨ ((Itr lo n).go i' H ∧ ∃ N : L2.St → Hp → Prop, (∀ σ' H', N σ' H' → ∃ m', m' < m ∧ W (i' + 1) m' σ' H') ∧ ∀ x H', (Itr lo n).yld i' H x H' → gName i x σ H' fun σ2 H2 => tb { D with nx := N, ct := N, bk := D.nx } σ2 H2) := by
  obtain ⟨Inv, h0, hs, hd⟩ := h
  refine for_range (fun t σ' H' => ∃ ρ' cs', Ext as H H' ∧ Wk K H' as cs' ∧ Ev K H' as σ' ρ' ∧ Inv t ρ' cs') ⟨ρ, cs, Ext.refl, w, ev, h0⟩ (fun t σ' H' ht hp => ?_) fun σ' H' hp => ?_
  · obtain ⟨ρ1, cs1, e1, w1, ev1, i1⟩ := hp
    obtain ⟨ρ2, h2, h3⟩ := hs t ρ1 cs1 ht i1
    cases (show some (ρ1.set i (.d (.int (lo + t)))) = some ρ2 from h2)
    refine b2 as _ H' _ cs1 _ { Dd with nx := fun k ρ' cs' => Inv (t + 1) (ρ'.map (disSl k cs')) (cs'.drop k), ct := fun k ρ' cs' => Inv (t + 1) (ρ'.map (disSl k cs')) (cs'.drop k), bk := Dd.nx } w1 (ev_set (s := .d _) ev1 i ⟨_, rfl, .int _⟩) (ek.ext e1) h3 ?_
    have S1 := S.ext w1 e1
    exact ⟨fun ex σ2 H2 ρ2 cs2 hf e2 w2 ev2 q => ⟨_, _, e1.trans e2, w2.drop, ev2.diss w2, q⟩, S1.nx, fun ex σ2 H2 ρ2 cs2 hf e2 w2 ev2 q => ⟨_, _, e1.trans e2, w2.drop, ev2.diss w2, q⟩, S1.rt, S1.rf⟩
  · obtain ⟨ρ1, cs1, e1, w1, ev1, i1⟩ := hp
    exact S.nx [] σ' H' ρ1 cs1 Nw.nil e1 w1 ev1 (hd ρ1 cs1 i1)
theorem q_forR1 {tg a : Expr} {body : List Stmt} {p p2 pos : Pos} {da : DA} {db : DS} (i : Nat) (hp : PassesOwn (model X.prog X.w) X.A X.env X.xe) (hc : X.calm = true) (hm : X.mg "range" = none) (ha : QA X E [a] da) (hg : PG X tg (gName i)) (hb : QSs X E body db)
    (hgl : Gl X "range" := by rfl) (hs : starEach [a] X.env = [(false, eval a X.env)] := by rfl) (hs2 : ∀ x, foldedSetIterable (.Call (.Name "range" p) [a] [] p2) X.env x = pure x := by intro _; rfl) :
    QS X E (.For tg (.Call (.Name "range" p) [a] [] p2) body [] pos) (dForR1 da i db) := by
  obtain ⟨ta, a1, a2⟩ := ha.ex
  obtain ⟨tb, b1, b2⟩ := hb.ex
  refine ⟨_, ps_for hp hc (pi_range1 hgl hm a1 hs) hg b1 hs2, fun as σ H ρ cs D Dd w ev ek h S => a2 as σ H ρ cs Dd.ex _ _ w ev ek h fun vs H1 ss cs1 e1 w1 d1 h1 => ?_⟩
  cases q : allD ss with
  | none => rw [q] at h1; exact h1.elim
  | some ds =>
    rw [q] at h1
    have d2 := allD_ok d1 q
    match ds, d2, h1 with
    | [.int n], .cons (.int _) .nil, h1 =>
      obtain ⟨g1, g2, g3⟩ := h1
      refine ⟨n, rfl, g1, g2, range_loop (lo := 0) w1 (ev.ext e1) (ek.ext e1) b2 (S.ext w1 e1) ?_⟩
      have e0 : (fun t : Nat => PyData.int (0 + (t : Int))) = fun t : Nat => .int t := by funext t; rw [Int.zero_add]
      rw [e0]
      exact g3
theorem q_forR2 {tg a b : Expr} {body : List Stmt} {p p2 pos : Pos} {da : DA} {db : DS} (i : Nat) (hp : PassesOwn (model X.prog X.w) X.A X.env X.xe) (hc : X.calm = true) (hm : X.mg "range" = none) (ha : QA X E [a, b] da) (hg : PG X tg (gName i)) (hb : QSs X E body db)
    (hgl : Gl X "range" := by rfl) (hs : starEach [a, b] X.env = [(false, eval a X.env), (false, eval b X.env)] := by rfl) (hs1 : starEach [b] X.env = [(false, eval b X.env)] := by rfl) (hs2 : ∀ x, foldedSetIterable (.Call (.Name "range" p) [a, b] [] p2) X.env x = pure x := by intro _; rfl) :
    QS X E (.For tg (.Call (.Name "range" p) [a, b] [] p2) body [] pos) (dForR2 da i db) := by
  obtain ⟨ta, a1, a2⟩ := ha.ex
  obtain ⟨tb, b1, b2⟩ := hb.ex
  refine ⟨_, ps_for hp hc (pi_range2 hgl hm a1 hs hs1) hg b1 hs2, fun as σ H ρ cs D Dd w ev ek h S => a2 as σ H ρ cs Dd.ex _ _ w ev ek h fun vs H1 ss cs1 e1 w1 d1 h1 => ?_⟩
  cases q : allD ss with
  | none => rw [q] at h1; exact h1.elim
  | some ds =>
    rw [q] at h1
    have d2 := allD_ok d1 q
    match ds, d2, h1 with
    | [.int n, .int m], .cons (.int _) (.cons (.int _) .nil), h1 =>
      obtain ⟨g1, g3⟩ := h1
      exact ⟨n, m, rfl, g1, range_loop w1 (ev.ext e1) (ek.ext e1) b2 (S.ext w1 e1) g3⟩
end
end Kp

namespace Kp
open PySem PySem.Spec PyProof.Rows L2
section
variable {K : Frag} {E : XK} {X : Cx}
/-! ### ints: the operators' data readings -/
theorem sr_add : SR K (rI0 fun i j => .int (i + j)) (dI0 fun i j => .int (i + j)) := sr_I0 fun _ _ _ => .int _
theorem sr_sub : SR K (rI0 fun i j => .int (i - j)) (dI0 fun i j => .int (i - j)) := sr_I0 fun _ _ _ => .int _
theorem sr_mul : SR K (rI CMul fun i j => .int (i * j)) (dI CMul fun i j => .int (i * j)) := sr_I fun _ _ _ => .int _
theorem sr_div : SR K (rI CDivW fun i j => .int (i / j)) (dI CDivW fun i j => .int (i / j)) := sr_I fun _ _ _ => .int _
theorem sr_mod : SR K (rI (fun _ j => 0 < j) fun i j => .int (i % j)) (dI (fun _ j => 0 < j) fun i j => .int (i % j)) := sr_I fun _ _ _ => .int _
theorem sr_pow : SR K (rI CPow fun i j => .int (i ^ j.toNat)) (dI CPow fun i j => .int (i ^ j.toNat)) := sr_I fun _ _ _ => .int _
theorem sr_lt : SR K (rI0 fun i j => .bl (decide (i < j))) (dI0 fun i j => .bool (decide (i < j))) := sr_I0 fun _ _ _ => .bl _
theorem sr_le : SR K (rI0 fun i j => .bl (decide (i ≤ j))) (dI0 fun i j => .bool (decide (i ≤ j))) := sr_I0 fun _ _ _ => .bl _
theorem sr_gt : SR K (rI0 fun i j => .bl (decide (j < i))) (dI0 fun i j => .bool (decide (j < i))) := sr_I0 fun _ _ _ => .bl _
theorem sr_ge : SR K (rI0 fun i j => .bl (decide (j ≤ i))) (dI0 fun i j => .bool (decide (j ≤ i))) := sr_I0 fun _ _ _ => .bl _
/-! ### == of data -/
mutual
theorem Dq.dp {H : Hp} : ∀ {v : V} {d : PyData}, Dq K H v d → d.canLay0 = true → Dp K H v d
  | _, _, .non, _ => .non
  | _, _, .bl b, _ => .bl b
  | _, _, .int i, _ => .int i
  | _, _, .str x, _ => .str x
  | _, _, .lst h a, c => .lst (SqL.of h) (DqAll.dp a c)
  | _, _, .tup h a, c => .tup h (DqAll.dp a c)
  | _, _, .emp _, c => by cases c
theorem DqAll.dp {H : Hp} : ∀ {vs : List V} {ds : List PyData}, DqAll K H vs ds → PyData.canLayAll0 ds = true → DpAll K H vs ds
  | _, _, .nil, _ => .nil
  | _, _, .cons h t, c => by
    obtain ⟨c1, c2⟩ := Bool.and_eq_true_iff.mp (show (PyData.canLay0 _ && PyData.canLayAll0 _) = true from c)
    exact .cons (Dq.dp h c1) (DqAll.dp t c2)
end
mutual
theorem dp_mono {H H' : Hp} (s : Same H H') : ∀ {v : V} {d : PyData}, Dp K H v d → Dp K H' v d
  | _, _, .non => .non
  | _, _, .bl b => .bl b
  | _, _, .int i => .int i
  | _, _, .str x => .str x
  | _, _, .lst h a => .lst (s.seq h) (dpa_mono s a)
  | _, _, .tup h a => .tup (same_t s h) (dpa_mono s a)
theorem dpa_mono {H H' : Hp} (s : Same H H') : ∀ {vs : List V} {ds : List PyData}, DpAll K H vs ds → DpAll K H' vs ds
  | _, _, .nil => .nil
  | _, _, .cons h t => .cons (dp_mono s h) (dpa_mono s t)
end
def dEq : R2D := fun x y Q => SeqAt.shaped x = true ∧ SeqAt.shaped y = true ∧ Q (.bool (PyData.eqv x y))
def dNe : R2D := fun x y Q => SeqAt.shaped x = true ∧ SeqAt.shaped y = true ∧ Q (.bool (!PyData.eqv x y))
theorem sr_eq : SR K (rEqD K) dEq := fun as H cs v u x y Qd Q w hx hy h k => by
  obtain ⟨h1, h2, h3⟩ := h
  exact ⟨x, y, dp_mono (hid_sub H as) (hx.dp (SeqAt.canLay_of_shaped h1)), dp_mono (hid_sub H as) (hy.dp (SeqAt.canLay_of_shaped h2)), h1, h2, k _ H _ (Same.refl H) (.bl _) h3⟩
theorem sr_ne : SR K (rNeD K) dNe := fun as H cs v u x y Qd Q w hx hy h k => by
  obtain ⟨h1, h2, h3⟩ := h
  exact ⟨x, y, dp_mono (hid_sub H as) (hx.dp (SeqAt.canLay_of_shaped h1)), dp_mono (hid_sub H as) (hy.dp (SeqAt.canLay_of_shaped h2)), h1, h2, k _ H _ (Same.refl H) (.bl _) h3⟩
/-- is None -/
def isNo : PyData → Bool
  | .none => true
  | _ => false
def dIsN : R2D := fun x y Q => match y with
  | .none => Q (.bool (isNo x))
  | _ => False
def dNotN : R2D := fun x y Q => match y with
  | .none => Q (.bool (!isNo x))
  | _ => False
theorem isNo_eq {H : Hp} {v : V} {x : PyData} (h : Dq K H v x) : decide (v = .non) = isNo x := by
  cases h <;> first | rfl | exact decide_eq_false (fun z => by cases z)
theorem sr_isN : SR K (fun x y H Q => y = .non ∧ Q (.bl (decide (x = .non))) H) dIsN := fun as H cs v u x y Qd Q w hx hy h k => by
  cases hy <;> try exact h.elim
  exact ⟨rfl, by rw [isNo_eq hx]; exact k _ H _ (Same.refl H) (.bl _) h⟩
theorem sr_notN : SR K (fun x y H Q => y = .non ∧ Q (.bl (!decide (x = .non))) H) dNotN := fun as H cs v u x y Qd Q w hx hy h k => by
  cases hy <;> try exact h.elim
  exact ⟨rfl, by rw [isNo_eq hx]; exact k _ H _ (Same.refl H) (.bl _) h⟩
/-- + of ints, tuples, lists -/
abbrev rPlus (K : Frag) : R2 := fun x y H Q => rI0 (fun i j => .int (i + j)) x y H Q ∨ (rCatA K x y H Q ∨ rCat x y H Q)
theorem op_plus : OpR X (binaryOp .Add) (rPlus X.K) := OpR.or op_add (OpR.or op_catA op_cat)
def dPlus : R2D := fun x y Q => match x, y with
  | .int i, .int j => Q (.int (i + j))
  | .tuple xs, .tuple ys => xs.length + ys.length ≤ sizeLine ∧ Q (.tuple (xs ++ ys))
  | .list xs, .list ys => xs.length + ys.length ≤ sizeLine ∧ Q (.list (xs ++ ys))
  | _, _ => False
theorem sr_plus : SR K (rPlus K) dPlus := fun as H cs v u x y Qd Q w hx hy h k => by
  cases hx with
  | int i =>
    cases hy <;> try exact h.elim
    exact .inl ⟨_, _, rfl, rfl, k _ H _ (Same.refl H) (.int _) h⟩
  | tup g1 g2 =>
    cases hy with
    | tup g3 g4 =>
      refine .inr (.inl ⟨_, _, _, _, rfl, rfl, hidT g1, hidT g3, by rw [g2.len, g4.len]; exact h.1, fun z => ?_, fun _ z => ?_, fun _ _ p hp => ?_⟩)
      · subst z
        cases g2
        exact k _ H _ (Same.refl H) (.tup g3 g4) h.2
      · subst z
        cases g4
        have h3 := h.2
        rw [List.append_nil] at h3
        exact k _ H _ (Same.refl H) (.tup g1 g2) h3
      · exact k _ _ _ (Same.new hp) (.tup (SqT.of (hid_new (w.fresh hp))) ((g2.app g4).mono (new_mono hp))) h.2
    | _ => exact h.elim
  | lst g1 g2 =>
    cases hy with
    | lst g3 g4 =>
      exact .inr (.inr ⟨_, _, _, _, rfl, rfl, hid1 g1, hid1 g3, by rw [g2.len, g4.len]; exact h.1, fun p hp => k _ _ _ (Same.new hp) (.lst (hid_new (w.fresh hp)) ((g2.app g4).mono (new_mono hp))) h.2⟩)
    | _ => exact h.elim
  | _ => exact h.elim
/-- * of ints, a list times an int -/
abbrev rTimes : R2 := fun x y H Q => rI CMul (fun i j => .int (i * j)) x y H Q ∨ rRep x y H Q
theorem op_times : OpR X (binaryOp .Mult) rTimes := OpR.or op_mul op_rep
def dTimes : R2D := fun x y Q => match x, y with
  | .int i, .int j => CMul i j ∧ Q (.int (i * j))
  | .list xs, .int n => (-(2 ^ 63) ≤ n ∧ n < 2 ^ 63 ∧ xs.length * n.toNat ≤ sizeLine) ∧ Q (.list (List.replicate n.toNat xs).flatten)
  | _, _ => False
theorem DqAll.flat {H : Hp} {xs : List V} {ds : List PyData} (h : DqAll K H xs ds) : ∀ n, DqAll K H (List.replicate n xs).flatten (List.replicate n ds).flatten
  | 0 => .nil
  | n + 1 => by
    rw [List.replicate_succ, List.replicate_succ, List.flatten_cons, List.flatten_cons]
    exact h.app (DqAll.flat h n)
theorem sr_times : SR K rTimes dTimes := fun as H cs v u x y Qd Q w hx hy h k => by
  cases hx with
  | int i =>
    cases hy <;> try exact h.elim
    exact .inl ⟨_, _, rfl, rfl, h.1, k _ H _ (Same.refl H) (.int _) h.2⟩
  | lst g1 g2 =>
    cases hy <;> try exact h.elim
    obtain ⟨⟨h1, h2, h3⟩, h4⟩ := h
    exact .inr ⟨_, _, _, rfl, rfl, hid1 g1, h1, h2, by rw [g2.len]; exact h3, fun p hp => k _ _ _ (Same.new hp) (.lst (hid_new (w.fresh hp)) ((g2.flat _).mono (new_mono hp))) h4⟩
  | _ => exact h.elim
/-! ### isinstance of data -/
def tyD : PyData → String
  | .none => "NoneType"
  | .bool _ => "bool"
  | .int _ => "int"
  | .str _ => "str"
  | .list _ => "list"
  | .tuple _ => "tuple"
  | .dict _ => "dict"
theorem Dq.ty {H : Hp} {v : V} {x : PyData} (h : Dq K H v x) : TyX K H v (.type (tyD x)) := by
  cases h with
  | non => exact .base .non
  | bl b => exact .base (.bl b)
  | int i => exact .base (.int i)
  | str s => exact .base (.str s)
  | lst g1 g2 => exact .base (.lst g1)
  | tup g1 g2 =>
    rcases g1 with (g | ⟨o, g⟩) | ⟨o, its, n, g, c, _⟩
    · exact .base (.tup g)
    · exact .fTuple g
    · exact .kTuple g c
  | emp g => exact .base (.dK g)
theorem tyx_mono {H H' : Hp} (s : Same H H') {v : V} {x : PyData} (h : Dq K H v x) : TyX K H' v (.type (tyD x)) := (h.mono s).ty
/-- isinstance(e, T), T a built-in class -/
def dIsi (T : String) (da : DE) : DE := fun ρ cs Ed Q => da ρ cs Ed fun x cs1 => ∃ b, kitB (tyD x) T = some b ∧ Q (.bool b) cs1
theorem q_isi {e : Expr} {p p2 pos : Pos} {da : DE} {T : Str} (n : String) (ha : QE X E e da) (hi : X.mg "isinstance" = none) (hT : X.mg T = none) (hv : bootBuiltins T = some (.type n)) (hg : Gl X "isinstance" := by rfl) (hgT : Gl X T := by rfl) (hn : T ≠ "__name__" := by decide) (hd : (T == ("__debug__" : Str)) = false := by decide)
    (hs : starEach [.Name T p2] X.env = (false, eval (.Name T p2) X.env) :: starEach [] X.env := by rfl) (hs2 : starEach (e :: [.Name T p2]) X.env = (false, eval e X.env) :: starEach [.Name T p2] X.env := by rfl)
    (hpl : (backTo pos (starEach [.Name T p2] X.env)).any (·.1) = false := by rfl) : QE X E (.Call (.Name "isinstance" p) [e, .Name T p2] [] pos) (dIsi n da) := by
  obtain ⟨ta, a1, a2⟩ := ha.ex
  refine ⟨_, pe_callB call_isi hg hi (by decide +kernel) (pa_cons a1 (pa_cons (pe_bltn hgT hT hv (show RelV (.ty n) (.type n) from rfl) hn hd) pa_nil hs) hs2) (he := hs2) (hpl := hpl), fun as σ H ρ cs Ed Qd Q w ev ek h k => a2 as σ H ρ cs Ed _ _ w ev ek h fun v H1 x cs1 e1 w1 d1 h1 => ?_⟩
  obtain ⟨b, h2, h3⟩ := h1
  exact ⟨v, .ty n, _, _, b, rfl, .ty n, tyx_mono (hid_sub H1 as) d1, kit_ty h2, k _ H1 _ cs1 e1 w1 (.bl b) h3⟩
end
end Kp

namespace Kp
open PySem PySem.Spec PyProof.Rows L2
section
variable {K : Frag} {E : XK} {X : Cx}
/-! ### what is walked: ints of a range, items of a list or tuple -/
/-- n items, it i the i-th; they stay in any heap that keeps the base H but for the cells as -/
def ItOk (K : Frag) (as : List CA) (H : Hp) (J : It) (n : Nat) (item : Nat → PyData) : Prop := ∀ ex H', Nw H H' ex → Ext as H H' →
  (∀ i, i < n → J.go i H' ∧ ∀ x H2, J.yld i H' x H2 → H2 = H' ∧ Dq K (hid H' (ex ++ as)) x (item i)) ∧ J.stop n H'
theorem same_sh {as ex : List CA} {H H' : Hp} (hf : Nw H H' ex) (s : Ext as H H') : Same (hid H as) (hid H' (ex ++ as)) := hid_sh hf s
abbrev DI := List Sl → CS → XD → (Nat → (Nat → PyData) → CS → Prop) → Prop
def SI (K : Frag) (E : XK) (wi : TI) (d : DI) : Prop := ∀ (as : List CA) (σ : L2.St) (H : Hp) (ρ : List Sl) (cs : CS) (Ed : XD) (Qd : Nat → (Nat → PyData) → CS → Prop) (R : It → Hp → Prop),
  Wk K H as cs → Ev K H as σ ρ → EK K E Ed as H → d ρ cs Ed Qd → (∀ J H' n item cs', Ext as H H' → Wk K H' as cs' → ItOk K as H' J n item → Qd n item cs' → R J H') → wi σ H R
structure QI (X : Cx) (E : XK) (tg it : Expr) (d : DI) : Prop where
  ex : ∃ wi, PI X tg it wi ∧ SI X.K E wi d
theorem it_range {as : List CA} {H : Hp} (lo : Int) (n : Nat) : ItOk K as H (Itr lo n) n (fun t => .int (lo + t)) := fun ex H' hf e =>
  ⟨fun i hi => ⟨hi, fun x H2 y => ⟨y.1, by rw [y.2]; exact .int _⟩⟩, Nat.le_refl n⟩
def nth (ds : List PyData) (i : Nat) : PyData := ds.getD i .none
theorem it_list {as : List CA} {H : Hp} {a : Addr} {xs : List V} {ds : List PyData} (h : hid H as a = some (.lst xs)) (d : DqAll K (hid H as) xs ds) : ItOk K as H (Itl K a) ds.length (nth ds) := fun ex H' hf e => by
  have h' : SqL K H' a xs := SqL.of (hid1 (e.hid _ _ h))
  refine ⟨fun i hi => ⟨?_, fun x H2 y => ⟨y.1, ?_⟩⟩, xs, h', by rw [d.len]; exact Nat.le_refl _⟩
  · have hx : i < xs.length := by rw [d.len]; exact hi
    exact ⟨xs, xs[i], h', List.getElem?_eq_getElem hx⟩
  · obtain ⟨w, q1, q2⟩ := d.get' (y.2 xs h')
    have e2 : nth ds i = w := by unfold nth; rw [List.getD_eq_getElem?_getD, q1]; rfl
    rw [e2]
    exact q2.mono (same_sh hf e)
theorem it_tup {as : List CA} {H : Hp} {a : Addr} {xs : List V} {ds : List PyData} (h : SqT K (hid H as) a xs) (d : DqAll K (hid H as) xs ds) : ItOk K as H (Itt K a) ds.length (nth ds) := fun ex H' hf e => by
  have h' : SqT K H' a xs := hidT (same_t e.hid h)
  refine ⟨fun i hi => ⟨?_, fun x H2 y => ⟨y.1, ?_⟩⟩, xs, h', by rw [d.len]; exact Nat.le_refl _⟩
  · have hx : i < xs.length := by rw [d.len]; exact hi
    exact ⟨xs, xs[i], h', List.getElem?_eq_getElem hx⟩
  · obtain ⟨w, q1, q2⟩ := d.get' (y.2 xs h')
    have e2 : nth ds i = w := by unfold nth; rw [List.getD_eq_getElem?_getD, q1]; rfl
    rw [e2]
    exact q2.mono (same_sh hf e)
def iR1 (da : DA) : DI := fun ρ cs Ed Q => da ρ cs Ed fun ss cs1 => match allD ss with
  | some [.int n] => -(2 ^ 62) ≤ n ∧ n < 2 ^ 62 ∧ Q n.toNat (fun t => .int t) cs1
  | _ => False
def iR2 (da : DA) : DI := fun ρ cs Ed Q => da ρ cs Ed fun ss cs1 => match allD ss with
  | some [.int a, .int b] => (-(2 ^ 62) ≤ a ∧ a < 2 ^ 62 ∧ -(2 ^ 62) ≤ b ∧ b < 2 ^ 62) ∧ Q (b - a).toNat (fun t => .int (a + t)) cs1
  | _ => False
def iSeq (da : DE) : DI := fun ρ cs Ed Q => da ρ cs Ed fun x cs1 => match x with
  | .tuple ds => Q ds.length (nth ds) cs1
  | .list ds => Q ds.length (nth ds) cs1
  | _ => False
theorem qi_r1 {tg a : Expr} {p p2 : Pos} {da : DA} (hm : X.mg "range" = none) (ha : QA X E [a] da) (hgl : Gl X "range" := by rfl) (hs : starEach [a] X.env = [(false, eval a X.env)] := by rfl) : QI X E tg (.Call (.Name "range" p) [a] [] p2) (iR1 da) := by
  obtain ⟨ta, a1, a2⟩ := ha.ex
  refine ⟨_, pi_range1 hgl hm a1 hs, fun as σ H ρ cs Ed Qd R w ev ek h k => a2 as σ H ρ cs Ed _ _ w ev ek h fun vs H1 ss cs1 e1 w1 d1 h1 => ?_⟩
  cases q : allD ss with
  | none => rw [q] at h1; exact h1.elim
  | some ds =>
    rw [q] at h1
    have d2 := allD_ok d1 q
    match ds, d2, h1 with
    | [.int n], .cons (.int _) .nil, h1 =>
      obtain ⟨g1, g2, g3⟩ := h1
      have it := it_range (K := X.K) (as := as) (H := H1) 0 n.toNat
      have e0 : (fun t : Nat => PyData.int (0 + (t : Int))) = fun t : Nat => .int t := by funext t; rw [Int.zero_add]
      rw [e0] at it
      exact ⟨n, rfl, g1, g2, k _ H1 _ _ cs1 e1 w1 it g3⟩
theorem qi_r2 {tg a b : Expr} {p p2 : Pos} {da : DA} (hm : X.mg "range" = none) (ha : QA X E [a, b] da) (hgl : Gl X "range" := by rfl) (hs : starEach [a, b] X.env = [(false, eval a X.env), (false, eval b X.env)] := by rfl) (hs1 : starEach [b] X.env = [(false, eval b X.env)] := by rfl) :
    QI X E tg (.Call (.Name "range" p) [a, b] [] p2) (iR2 da) := by
  obtain ⟨ta, a1, a2⟩ := ha.ex
  refine ⟨_, pi_range2 hgl hm a1 hs hs1, fun as σ H ρ cs Ed Qd R w ev ek h k => a2 as σ H ρ cs Ed _ _ w ev ek h fun vs H1 ss cs1 e1 w1 d1 h1 => ?_⟩
  cases q : allD ss with
  | none => rw [q] at h1; exact h1.elim
  | some ds =>
    rw [q] at h1
    have d2 := allD_ok d1 q
    match ds, d2, h1 with
    | [.int n, .int m], .cons (.int _) (.cons (.int _) .nil), h1 => exact ⟨n, m, rfl, h1.1, k _ H1 _ _ cs1 e1 w1 (it_range n _) h1.2⟩
/-- a list or a tuple is walked -/
def iAny (K : Frag) (tl : TE) : TI := fun σ H R => tl σ H fun x H1 => ∃ a, x = .ref a ∧ (((∃ xs, SqL K H1 a xs) ∧ R (Itl K a) H1) ∨ ((∃ xs, SqT K H1 a xs) ∧ R (Itt K a) H1))
theorem pi_any {tg l : Expr} {tl : TE} (hl : PE X l tl) : PI X tg l (iAny X.K tl) := by
  constructor
  intro pins s σ H R I h
  refine thn (hl.run pins s σ H _ I h) ?_
  rintro v s1 ⟨x, H1, I1, r1, a, rfl, ⟨⟨xs, hq⟩, q⟩ | ⟨⟨xs, hq⟩, q⟩⟩
  · cases r1
    obtain ⟨its, -, p, -⟩ := I1.list hq
    refine wpAny_pyIter_list p.isList ⟨_, _, _, _, H1, rfl, ?_, turn_list a _, ⟨_, Heap.get?_push_size _ rfl, rfl, rfl⟩, ?_, q⟩
    · exact I1.kept (t' := s1.toks) fun b o e => Heap.get?_push_of_some _ e
    · intro b hb
      rw [List.mem_singleton.mp hb]
      exact I1.fpOk (Nat.le_refl _) (I1.hok.fresh (Nat.le_refl _))
  · cases r1
    obtain ⟨its, -, p, -⟩ := I1.tuple hq
    refine wpAny_pyIter_tuple (show s1.heap.IsTuple a its.toArray from p) ⟨_, _, _, _, H1, rfl, ?_, turn_tuple a _, ⟨_, Heap.get?_push_size _ rfl, rfl, rfl⟩, ?_, q⟩
    · exact I1.kept (t' := s1.toks) fun b o e => Heap.get?_push_of_some _ e
    · intro b hb
      rw [List.mem_singleton.mp hb]
      exact I1.fpOk (Nat.le_refl _) (I1.hok.fresh (Nat.le_refl _))
theorem qi_seq {tg l : Expr} {da : DE} (ha : QE X E l da) : QI X E tg l (iSeq da) := by
  obtain ⟨ta, a1, a2⟩ := ha.ex
  refine ⟨_, pi_any a1, fun as σ H ρ cs Ed Qd R w ev ek h k => a2 as σ H ρ cs Ed _ _ w ev ek h fun v H1 x cs1 e1 w1 d1 h1 => ?_⟩
  cases d1 with
  | lst g1 g2 => exact ⟨_, rfl, .inl ⟨⟨_, SqL.of (hid1 g1)⟩, k _ H1 _ _ cs1 e1 w1 (it_list g1 g2) h1⟩⟩
  | tup g1 g2 => exact ⟨_, rfl, .inr ⟨⟨_, hidT g1⟩, k _ H1 _ _ cs1 e1 w1 (it_tup g1 g2) h1⟩⟩
  | _ => exact h1.elim
/-! ### targets -/
abbrev Put := PyData → List Sl → Option (List Sl)
def SG (K : Frag) (t : TG) (p : Put) : Prop := ∀ (as : List CA) (σ : L2.St) (H : Hp) (ρ ρ' : List Sl) (v : V) (x : PyData) (Q : L2.St → Hp → Prop), Ev K H as σ ρ → Dq K (hid H as) v x → p x ρ = some ρ' → (∀ σ', Ev K H as σ' ρ' → Q σ' H) → t v σ H Q
structure QG (X : Cx) (tg : Expr) (p : Put) : Prop where
  ex : ∃ t, PG X tg t ∧ SG X.K t p
def put1 (i : Nat) : Put := fun x ρ => some (ρ.set i (.d x))
def putT (is : List Nat) : Put := fun x ρ => match x with
  | .tuple ds => setAll is ds ρ
  | _ => none
theorem sg_1 (i : Nat) : SG K (gName i) (put1 i) := fun as σ H ρ ρ' v x Q ev d h k => by
  cases (show some (ρ.set i (.d x)) = some ρ' from h)
  exact k _ (ev_set (s := .d x) ev i ⟨v, rfl, d⟩)
theorem qg_1 {tg : Expr} (i : Nat) (hg : PG X tg (gName i)) : QG X tg (put1 i) := ⟨_, hg, sg_1 i⟩
theorem qg_t {es : List Expr} {k : Nat} {pos : Pos} (is : List Nat) (hc : X.calm = true) (hg : PGs X es (gNames is)) (hn : (assignEach es X.env).length = is.length := by rfl) (hst : (assignEach es X.env).findIdx? (·.1) = none := by rfl) : QG X (.Tuple es k pos) (putT is) :=
  ⟨_, pg_tup hc hg hn hst, fun as σ H ρ ρ' v x Q ev d h kk => by
    cases d with
    | tup g1 g2 => exact ⟨_, _, rfl, hidT g1, by rw [g2.len]; exact setAll_len h, names_ok ev g2 h kk⟩
    | _ => cases h⟩
/-! ### for -/
/-- Inv by turns; what a turn made as cells is data behind it -/
def dLp (n : Nat) (item : Nat → PyData) (p : Put) (body : DS) : DS := fun Dd ρ cs => ∃ Inv : Nat → List Sl → CS → Prop, Inv 0 ρ cs ∧
  (∀ t ρ cs, t < n → Inv t ρ cs → ∃ ρ', p (item t) ρ = some ρ' ∧ body { Dd with nx := fun k ρ' cs' => Inv (t + 1) (ρ'.map (disSl k cs')) (cs'.drop k), ct := fun k ρ' cs' => Inv (t + 1) (ρ'.map (disSl k cs')) (cs'.drop k), bk := Dd.nx } ρ' cs) ∧
  ∀ ρ cs, Inv n ρ cs → Dd.nx 0 ρ cs
def dFor (di : DI) (p : Put) (body : DS) : DS := fun Dd ρ cs => di ρ cs Dd.ex fun n item cs1 => dLp n item p body Dd ρ cs1
theorem q_for {tg it : Expr} {body : List Stmt} {pos : Pos} {di : DI} {p : Put} {db : DS} (hp : PassesOwn (model X.prog X.w) X.A X.env X.xe) (hc : X.calm = true) (hi : QI X E tg it di) (hg : QG X tg p) (hb : QSs X E body db)
    (hs2 : ∀ x, foldedSetIterable it X.env x = pure x := by intro _; rfl) : QS X E (.For tg it body [] pos) (dFor di p db) := by
  obtain ⟨wi, i1, i2⟩ := hi.ex
  obtain ⟨tgt, g1, g2⟩ := hg.ex
  obtain ⟨tb, b1, b2⟩ := hb.ex
  refine ⟨_, ps_for hp hc i1 g1 b1 hs2, fun as σ H ρ cs D Dd w ev ek h S => i2 as σ H ρ cs Dd.ex _ _ w ev ek h fun J H1 n item cs1 e1 w1 it h1 => ?_⟩
  obtain ⟨Inv, h0, hs, hd⟩ := h1
  refine ⟨fun t m σ' H' => m = n - t ∧ t ≤ n ∧ ∃ ρ' cs', Ext as H1 H' ∧ Wk X.K H' as cs' ∧ Ev X.K H' as σ' ρ' ∧ Inv t ρ' cs', ⟨n, by simp, Nat.zero_le _, ρ, cs1, Ext.refl, w1, ev.ext e1, h0⟩, ?_⟩
  rintro t m σ2 H2 ⟨rfl, ht, ρ2, cs2, e2, w2, ev2, i2⟩
  obtain ⟨z1, z2⟩ := it [] H2 Nw.nil e2
  by_cases hlt : t < n
  · obtain ⟨z3, z4⟩ := z1 t hlt
    refine .inr ⟨z3, fun σ' H' => ∃ ρ' cs', Ext as H1 H' ∧ Wk X.K H' as cs' ∧ Ev X.K H' as σ' ρ' ∧ Inv (t + 1) ρ' cs', fun σ' H' q => ⟨n - (t + 1), by omega, rfl, hlt, q⟩, fun x H3 y => ?_⟩
    obtain ⟨rfl, dx⟩ := z4 x H3 y
    obtain ⟨ρ3, p1, p2⟩ := hs t ρ2 cs2 hlt i2
    refine g2 as σ2 H3 ρ2 ρ3 x _ _ ev2 dx p1 fun σ3 ev3 => ?_
    refine b2 as σ3 H3 ρ3 cs2 _ { Dd with nx := fun k ρ' cs' => Inv (t + 1) (ρ'.map (disSl k cs')) (cs'.drop k), ct := fun k ρ' cs' => Inv (t + 1) (ρ'.map (disSl k cs')) (cs'.drop k), bk := Dd.nx } w2 ev3 ((ek.ext e1).ext e2) p2 ?_
    have S1 := (S.ext w1 e1).ext w2 e2
    exact ⟨fun ex σ4 H4 ρ4 cs4 hf e4 w4 ev4 q => ⟨_, _, e2.trans e4, w4.drop, ev4.diss w4, q⟩, S1.nx, fun ex σ4 H4 ρ4 cs4 hf e4 w4 ev4 q => ⟨_, _, e2.trans e4, w4.drop, ev4.diss w4, q⟩, S1.rt, S1.rf⟩
  · have e : t = n := by omega
    subst e
    exact .inl ⟨z2, S.nx [] σ2 H2 ρ2 cs2 Nw.nil (e1.trans e2) w2 ev2 (hd ρ2 cs2 i2)⟩
/-! ### a def keeps its promise -/
theorem ev_start {as : List CA} {H : Hp} {vs : List V} {ss : List Sl} (N : List Str) (h : Ar K H as vs ss) : Ev K H as (L2.start N vs) (ss ++ List.replicate (N.length - ss.length) .no) := by
  have e := pr_len h
  unfold L2.start
  rw [e]
  have go : ∀ {l : List V} {m : List Sl}, Ar K H as l m → Ev K H as (l.map some ++ List.replicate (N.length - ss.length) none) (m ++ List.replicate (N.length - ss.length) .no) := fun {l m} q => by
    induction q with
    | nil =>
      have rep : ∀ n, Ev K H as (List.replicate n none) (List.replicate n .no) := fun n => by
        induction n with
        | zero => exact .nil
        | succ n ih => rw [List.replicate_succ, List.replicate_succ]; exact .cons trivial ih
      exact rep _
    | cons r _ ih => exact .cons r.1 ih
  exact go h
def DN0 (Qd : PyData → CS → Prop) (Qn : List PyData → CS → Prop) (Ed : XD) : DN where
  m := 0
  nx := fun k _ cs => Qd .none (cs.drop k)
  rt := Qd
  rf := fun kd ds cs => match kd with
    | .lst => Qn ds cs
    | _ => False
  bk := fun _ _ _ => False
  ct := fun _ _ _ => False
  ex := Ed
section
variable {P : Program} {w : World} {mg : Str → Option Value} {base : Heap} {name qual : Str} {st : Stmt} {a : Addr} {fd : FuncData} {N ps : List Str} {k : Nat} {dvs : List V} {kws : List (Str × V)}
theorem cal_of {f : FD} {ds : DS} (F : FunD K name qual (defArgs st) (defBody st) (defScope st) dvs kws a fd) (S : FnScope N ps (defScope st)) (hb : Binds K fd ps []) (hm : mg name = some (.ref a)) (hlen : ∀ ss cs Ed Q, f ss cs Ed Q → ss.length = ps.length)
    (body : ∀ (cdv : Value) (A : Around) (outer : List Env) (s : Shared) (H : Hp) (E : XK), Room k (A.deeper (envOfC qual (defScope st) s.heap.objs.size a cdv)) → QSs (cxOf (L2.CX P w) P w K mg base N qual (defScope st) a cdv A outer s H E) E (defBody st) ds)
    (hf : ∀ ss cs Ed Qd, f ss cs Ed Qd → ds (DN0 Qd (fun _ _ => False) Ed) (ss ++ List.replicate (N.length - ss.length) .no) cs) : Cal P w K mg base (k + 1) name ps f := by
  refine ⟨a, fd, hm, F.kp, F.ok S (fun vs H Q E h => ?_) (fun cdv A outer s H vs Q E hr h => ?_), hb⟩
  · obtain ⟨as, ss, cs, Ed, Qd, _, h2, _, h4, _⟩ := h
    rw [pr_len h2]
    exact hlen _ _ _ _ h4
  · obtain ⟨as, ss, cs, Ed, Qd, h1, h2, h3, h4, h5⟩ := h
    obtain ⟨t, b1, b2⟩ := (body cdv A outer s H E hr).ex
    refine ⟨t, b1, b2 as _ H _ cs _ (DN0 Qd (fun _ _ => False) Ed) h1 (ev_start N h2) h3 (hf _ _ _ _ h4) ⟨fun ex σ' H' ρ' cs' hf e w' ev q => ?_, fun ex σ' H' ρ' cs' hf e w' ev q => q.elim, fun ex σ' H' ρ' cs' hf e w' ev q => q.elim, fun v H' x cs' e w' d q => ?_, fun p kd H' ds cs' e f' w' q => by cases kd <;> exact q.elim⟩⟩
    · exact h5 .non H' .none _ e w'.drop .non q
    · exact h5 v H' x cs' e w' d q
/-- a def that hands back a new list -/
abbrev FN := List Sl → CS → XD → (List PyData → CS → Prop) → Prop
def spN (K : Frag) (f : FN) : Sp := fun vs H Q E => ∃ (as : List CA) (ss : List Sl) (cs : CS) (Ed : XD) (Qn : List PyData → CS → Prop), Wk K H as cs ∧ Ar K H as vs ss ∧ EK K E Ed as H ∧ f ss cs Ed Qn ∧
  ∀ p H' ds cs', Ext as H H' → H p = none → Wk K H' (cl p :: as) (ds :: cs') → Qn ds cs' → Q (.ref p) H'
structure CalN (P : Program) (w : World) (K : Frag) (mg : Str → Option Value) (base : Heap) (k : Nat) (name : Str) (ps : List Str) (f : FN) : Prop where
  ex : ∃ (a : Addr) (fd : FuncData), mg name = some (.ref a) ∧ PySem.W.keepIn K (.ref a) = true ∧ FnOk P w K mg base (L2.CX P w) k a fd ps (spN K f) ∧ Binds K fd ps []
theorem calN_of {f : FN} {ds : DS} (F : FunD K name qual (defArgs st) (defBody st) (defScope st) dvs kws a fd) (S : FnScope N ps (defScope st)) (hb : Binds K fd ps []) (hm : mg name = some (.ref a)) (hlen : ∀ ss cs Ed Q, f ss cs Ed Q → ss.length = ps.length)
    (body : ∀ (cdv : Value) (A : Around) (outer : List Env) (s : Shared) (H : Hp) (E : XK), Room k (A.deeper (envOfC qual (defScope st) s.heap.objs.size a cdv)) → QSs (cxOf (L2.CX P w) P w K mg base N qual (defScope st) a cdv A outer s H E) E (defBody st) ds)
    (hf : ∀ ss cs Ed Qn, f ss cs Ed Qn → ds (DN0 (fun _ _ => False) Qn Ed) (ss ++ List.replicate (N.length - ss.length) .no) cs) : CalN P w K mg base (k + 1) name ps f := by
  refine ⟨a, fd, hm, F.kp, F.ok S (fun vs H Q E h => ?_) (fun cdv A outer s H vs Q E hr h => ?_), hb⟩
  · obtain ⟨as, ss, cs, Ed, Qd, _, h2, _, h4, _⟩ := h
    rw [pr_len h2]
    exact hlen _ _ _ _ h4
  · obtain ⟨as, ss, cs, Ed, Qn, h1, h2, h3, h4, h5⟩ := h
    obtain ⟨t, b1, b2⟩ := (body cdv A outer s H E hr).ex
    refine ⟨t, b1, b2 as _ H _ cs _ (DN0 (fun _ _ => False) Qn Ed) h1 (ev_start N h2) h3 (hf _ _ _ _ h4) ⟨fun ex σ' H' ρ' cs' hf e w' ev q => q.elim, fun ex σ' H' ρ' cs' hf e w' ev q => q.elim, fun ex σ' H' ρ' cs' hf e w' ev q => q.elim, fun v H' x cs' e w' d q => q.elim, fun p kd H' ds cs' e f' w' q => ?_⟩⟩
    cases kd <;> try exact q.elim
    rcases f' with f' | ⟨i, f1, f2⟩
    · exact h5 p H' ds cs' e (f'.out (p := p) mem_self) w' q
    · exact absurd (show i < 0 from f1) (Nat.not_lt_zero i)
end
def dNCall (f : FN) (da : DA) : DL := fun ρ cs Ed Q => da ρ cs Ed fun ss cs1 => f ss cs1 Ed Q
theorem q_ncall {k : Nat} {name : Str} {ps : List Str} {f : FN} {e : Expr} {es : List Expr} {p pos : Pos} {da : DA} (F : CalN X.prog X.w X.K X.mg X.base k name ps f) (hr : Room k X.A) (hx : Passes (L2.CX X.prog X.w) X E) (ha : QA X E (e :: es) da)
    (hg : Gl X name := by rfl) (hdb : (name == ("__debug__" : Str)) = false := by decide) (he : starEach (e :: es) X.env = (false, eval e X.env) :: starEach es X.env := by rfl) (hpl : (backTo pos (starEach es X.env)).any (·.1) = false := by rfl) :
    QN X E (.Call (.Name name p) (e :: es) [] pos) (dNCall f da) := by
  obtain ⟨a, fd, h1, h2, h3, h4⟩ := F.ex
  obtain ⟨ta, a1, a2⟩ := ha.ex
  refine ⟨_, pe_call h3 hr hg h1 h2 h4 .nil hx a1 hdb he hpl, fun as σ H ρ cs Ed Qd Q w ev ek h k => a2 as σ H ρ cs Ed _ _ w ev ek h fun vs H1 ss cs1 e1 w1 d1 h1 => ?_⟩
  exact ⟨as, ss, cs1, Ed, Qd, w1, by rw [List.append_nil]; exact d1, ek.ext e1, h1, fun p H' ds cs' e2 hp w2 q => k p H' ds cs' (e1.trans e2) (fresh_of w1 e1 hp) w2 q⟩
theorem hdl_dropS {H : Hp} {as : List CA} (m : Nat) : (hdl H (as.drop m)).Sublist (hdl H as) := by
  have h : (hdl H (as.drop m)).Sublist (hdl H (as.take m ++ as.drop m)) := by rw [hdl_app]; exact List.sublist_append_right _ _
  rw [List.take_append_drop] at h
  exact h
theorem Wk.mid {H : Hp} {as : List CA} {cs : CS} {p : Addr} {ds : List PyData} (m : Nat) (w : Wk K H (cl p :: as) (ds :: cs)) : Wk K H (cl p :: as.drop m) (ds :: cs.drop m) := by
  have s : Same (hid H (cl p :: as)) (hid H (cl p :: as.drop m)) := fun b o h => by
    obtain ⟨h1, h2⟩ := hid_of h
    rw [hid_out (as := cl p :: as.drop m) (Vs.app (x := [cl p]) (Vs.left (x := [cl p]) h1) ((Vs.right (x := [cl p]) h1).drop m))]
    exact h2
  refine ⟨w.nd.sublist (show (p :: hdl H (as.drop m)).Sublist (p :: hdl H as) from (hdl_dropS m).cons₂ p), ?_⟩
  cases w.cel with
  | cons c t => exact .cons (c.move s fun b _ o h => h) (pr_map (fun b es q => q.move s fun b _ o h => h) (pr_dropn m t))
/-- return a new list -/
def dRetL (d : DL) : DS := fun Dd ρ cs => d ρ cs Dd.ex fun ds cs1 => Dd.rf .lst ds cs1
theorem q_retL {e : Expr} {pos : Pos} {d : DL} (h : QN X E e d) : QS X E (.Return (some e) pos) (dRetL d) := by
  obtain ⟨t, a1, a2⟩ := h.ex
  exact ⟨_, ps_ret a1, fun as σ H ρ cs D Dd w ev ek h S => a2 as σ H ρ cs Dd.ex _ _ w ev ek h fun p H1 ds cs1 e1 hp w1 h1 => S.rf p .lst H1 ds cs1 e1 (.inl (Nw.lst hp)) (w1.mid _) h1⟩
/-! ### the law -/
def fLaw (n : Nat) : FD := fun ss cs _ Q => cs = [] ∧ ∃ ns : List Int, ss = [.f (ns.map .int)] ∧ ns.length ≤ n ∧ Q (.bool true) []
theorem dq_ints {H : Hp} : ∀ ns : List Int, DqAll K H (ns.map V.int) (ns.map PyData.int)
  | [] => .nil
  | n :: r => .cons (.int n) (dq_ints r)
theorem sp_law {H : Hp} {a : Addr} {ns : List Int} {n : Nat} (hl : ns.length ≤ n) (hS : SqL K H a (ns.map V.int)) : spD K (fLaw n) [.ref a] H (fun v _ => v = .bl true) fun _ _ _ => False :=
  ⟨[], [.f (ns.map .int)], [], fun _ _ => False, fun x _ => x = .bool true, Wk.nil, .cons ⟨⟨a, _, rfl, by rw [hid_nil]; exact hS, dq_ints ns⟩, fun z => by cases z⟩ .nil, fun _ _ _ _ _ z => z.elim, ⟨rfl, ns, rfl, hl, rfl⟩, fun v H' x cs' _ _ d q => by
    subst q
    cases d
    rfl⟩
end
end Kp

namespace Kp
open PySem PySem.Spec PyProof.Rows L2
section
variable {K : Frag} {E : XK} {X : Cx}
/-! ### ** of any base, -x -/
def CPowW (i j : Int) : Prop := 0 ≤ j ∧ (Builtin.Int.intBits i : Int) * j ≤ 2 ^ 27
theorem op_powW : OpR X (binaryOp .Pow) (rI CPowW fun i j => .int (i ^ j.toNat)) := opI fun _ _ _ _ _ _ _ hc q => pow_int hc.1 hc.2 q
theorem sr_powW : SR K (rI CPowW fun i j => .int (i ^ j.toNat)) (dI CPowW fun i j => .int (i ^ j.toNat)) := sr_I fun _ _ _ => .int _
theorem powW_of {i : Int} {j : Int} (h1 : -(2 ^ 64) < i) (h2 : i < 2 ^ 64) (h3 : 0 ≤ j) (h4 : j ≤ 1000000) : CPowW i j := by
  refine ⟨h3, ?_⟩
  have hb : Builtin.Int.intBits i ≤ 64 := intBits_le_64 h1 h2
  have hb' : (Builtin.Int.intBits i : Int) ≤ 64 := by omega
  have m1 : (Builtin.Int.intBits i : Int) * j ≤ 64 * j := Int.mul_le_mul_of_nonneg_right hb' h3
  omega
def dNeg (da : DE) : DE := fun ρ cs Ed Q => da ρ cs Ed fun x cs1 => match x with
  | .int i => Q (.int (-i)) cs1
  | _ => False
theorem q_neg {a : Expr} {pos : Pos} {da : DE} (ha : QE X E a da) : QE X E (.UnaryOp .USub a pos) (dNeg da) := by
  obtain ⟨ta, a1, a2⟩ := ha.ex
  refine ⟨_, pe_un un_neg a1, fun as σ H ρ cs Ed Qd Q w e ek h k => a2 as σ H ρ cs Ed _ _ w e ek h fun v H1 x cs1 e1 w1 d1 h1 => ?_⟩
  cases d1 <;> try exact h1.elim
  exact ⟨_, rfl, k _ H1 _ cs1 e1 w1 (.int _) h1⟩

/-! ### the best reading that data give: the same for every context -/
def tOfE (K : Frag) (E : XK) (d : DE) : TE := fun σ H Q => ∃ (as : List CA) (ρ : List Sl) (cs : CS) (Ed : XD) (Qd : PyData → CS → Prop), Wk K H as cs ∧ Ev K H as σ ρ ∧ EK K E Ed as H ∧ d ρ cs Ed Qd ∧
  ∀ v H' x cs', Ext as H H' → Wk K H' as cs' → Dq K (hid H' as) v x → Qd x cs' → Q v H'
theorem QE.can {e : Expr} {d : DE} (h : QE X E e d) : PE X e (tOfE X.K E d) := by
  obtain ⟨t, a1, a2⟩ := h.ex
  refine ⟨fun pins s σ H Q I q => a1.run pins s σ H Q I ?_⟩
  obtain ⟨as, ρ, cs, Ed, Qd, h1, h2, h3, h4, h5⟩ := q
  exact a2 as σ H ρ cs Ed Qd Q h1 h2 h3 h4 h5
theorem se_can {d : DE} : SE K E (tOfE K E d) d := fun as σ H ρ cs Ed Qd Q w e ek h k => ⟨as, ρ, cs, Ed, Qd, w, e, ek, h, k⟩
def tOfT (K : Frag) (E : XK) (d : DT) : TT := fun σ H Q => ∃ (as : List CA) (ρ : List Sl) (cs : CS) (Ed : XD) (Qd : Bool → CS → Prop), Wk K H as cs ∧ Ev K H as σ ρ ∧ EK K E Ed as H ∧ d ρ cs Ed Qd ∧
  ∀ b H' cs', Ext as H H' → Wk K H' as cs' → Qd b cs' → Q b H'
theorem QT.can {e : Expr} {d : DT} (h : QT X E e d) : PT X e (tOfT X.K E d) := by
  obtain ⟨t, a1, a2⟩ := h.ex
  refine ⟨fun pins s σ H Q I q => a1.run pins s σ H Q I ?_⟩
  obtain ⟨as, ρ, cs, Ed, Qd, h1, h2, h3, h4, h5⟩ := q
  exact a2 as σ H ρ cs Ed Qd Q h1 h2 h3 h4 h5
theorem st_can {d : DT} : ST K E (tOfT K E d) d := fun as σ H ρ cs Ed Qd Q w e ek h k => ⟨as, ρ, cs, Ed, Qd, w, e, ek, h, k⟩

/-! ### [e for x in xs], [e for x in xs if t]: one name walked -/
abbrev X0 : XD := fun _ _ => False
theorem ek0 {as : List CA} {H : Hp} : EK K E0 X0 as H := fun _ _ _ _ _ q => q.elim
def dYes : DT := fun _ cs _ Q => Q true cs
theorem st_yes' {E : XK} : ST K E tYes dYes := fun as σ H ρ cs Ed Qd Q w e ek h k => k true H cs Ext.refl w h
/-- Inv by turns, over what is made so far and the cells; the list being made stands first among them -/
def dLc (di : DI) (i : Nat) (dt : DT) (de : DE) : DL := fun ρ cs Ed Q => di ρ cs Ed fun n item cs1 => ∃ Inv : Nat → List PyData → CS → Prop, Inv 0 [] cs1 ∧
  (∀ t acc cs, t < n → Inv t acc cs → dt ((ρ.map (shSl 1)).set i (.d (item t))) (acc :: cs) X0 fun b cs2 => if b = true
    then de ((ρ.map (shSl 1)).set i (.d (item t))) cs2 X0 fun y cs3 => match cs3 with
      | acc' :: cs' => acc'.length < sizeLine ∧ Inv (t + 1) (acc' ++ [y]) cs'
      | [] => False
    else match cs2 with
      | acc' :: cs' => Inv (t + 1) acc' cs'
      | [] => False) ∧
  ∀ acc cs, Inv n acc cs → Q acc cs
theorem wipe1 {σ : L2.St} {i : Nat} {v : V} : wipe ((wipe σ [i]).set i (some v)) [i] = wipe σ [i] := by
  show ((σ.set i none).set i (some v)).set i none = σ.set i none
  rw [List.set_set, List.set_set]
theorem Wk.head {H : Hp} {as : List CA} {p : Addr} {cs : CS} (w : Wk K H (cl p :: as) cs) : ∃ acc cs' xs, cs = acc :: cs' ∧ H p = some (.lst xs) ∧ DqAll K (hid H (cl p :: as)) xs acc := by
  cases w.cel with
  | cons c t =>
    obtain ⟨xs, c1, c2⟩ := c
    exact ⟨_, _, xs, rfl, c1, c2⟩
theorem lc_core' {wi : TI} {i : Nat} {tt : TT} {te : TE} {di : DI} {dt : DT} {de : DE} (i2 : SI K E wi di) (t2 : ST K E0 tt dt) (e2 : SE K E0 te de) : SN K E (tLc wi (gName i) tt te [i]) (dLc di i dt de) := fun as σ H ρ cs Ed Qd Q w ev ek h k =>
  i2 as σ H ρ cs Ed _ _ w ev ek h fun J H1 n item cs1 e1 w1 it h1 D hD => by
    obtain ⟨Inv, h0, hs, hd⟩ := h1
    have ev1 := ev.ext e1
    have w0 : Wk K (upd H1 D (.lst [])) (cl D :: as) ([] :: cs1) := w1.newc hD .nil
    have e0 : ∀ {H'}, Ext (cl D :: as) (upd H1 D (.lst [])) H' → Ext as H1 H' := fun {H'} q => Ext.cut (ex := [cl D]) (Nw.lst hD) (Ext.of (Same.new hD)) q
    refine ⟨fun t m H' => m = n - t ∧ t ≤ n ∧ ∃ acc cs', Ext (cl D :: as) (upd H1 D (.lst [])) H' ∧ Wk K H' (cl D :: as) (acc :: cs') ∧ Inv t acc cs', ⟨n, by simp, Nat.zero_le _, [], cs1, Ext.refl, w0, h0⟩, ?_⟩
    rintro t m H2 ⟨rfl, ht, acc, cs2, x2, w2, q2⟩
    have fD : ∀ {H' : Hp}, Nw H1 H' [cl D] := Nw.lst hD
    obtain ⟨z1, z2⟩ := it [cl D] H2 fD (e0 x2)
    by_cases hlt : t < n
    · obtain ⟨z3, z4⟩ := z1 t hlt
      refine .inr ⟨z3, fun H' => ∃ acc cs', Ext (cl D :: as) (upd H1 D (.lst [])) H' ∧ Wk K H' (cl D :: as) (acc :: cs') ∧ Inv (t + 1) acc cs', fun H' q => ⟨n - (t + 1), by omega, rfl, hlt, q⟩, fun x H3 y => ?_⟩
      obtain ⟨rfl, dx⟩ := z4 x H3 y
      refine ⟨wipe1, ?_⟩
      -- the slots, the new list among the cells
      have evs : Ev K H3 (cl D :: as) σ (ρ.map (shSl 1)) := Ev.sh (ex := [cl D]) fD ev1 (e0 x2)
      have ev3 : Ev K H3 (cl D :: as) ((wipe σ [i]).set i (some x)) ((ρ.map (shSl 1)).set i (.d (item t))) := by
        have q := ev_set (s := .d (item t)) (v := x) evs i ⟨x, rfl, dx⟩
        show Ev K H3 (cl D :: as) ((σ.set i none).set i (some x)) _
        rw [List.set_set]
        exact q
      refine t2 (cl D :: as) _ H3 _ (acc :: cs2) X0 _ _ w2 ev3 ek0 (hs t acc cs2 hlt q2) fun b H4 cs4 e4 w4 h4 => ?_
      cases b with
      | true =>
        refine iteT (e2 (cl D :: as) _ H4 _ cs4 X0 _ _ w4 (ev3.ext e4) ek0 (show de _ cs4 X0 _ by simpa using h4) fun y' H5 yd cs5 e5 w5 d5 h5 => ?_)
        obtain ⟨acc5, cs5', xs5, rfl, g1, g2⟩ := w5.head
        obtain ⟨h6, h7⟩ := h5
        refine ⟨xs5, g1, by rw [g2.len]; exact h6, _, _, ((x2.trans e4).trans e5).trans (ext_upd w5 (j := 0) rfl), ?_, h7⟩
        exact w5.put (j := 0) rfl (g2.app (.one d5))
      | false =>
        obtain ⟨acc5, cs5', xs5, rfl, g1, g2⟩ := w4.head
        exact iteF ⟨_, _, x2.trans e4, w4, by simpa using h4⟩
    · have e : t = n := by omega
      subst e
      refine .inl ⟨z2, k D H2 acc cs2 (e1.trans (e0 x2)) (fresh_of w1 e1 hD) w2 (hd acc cs2 q2)⟩
theorem q_lc {elt tg iter : Expr} {scope : Scope} {pos : Pos} {di : DI} {de : DE} {x : Str} (i : Nat) (hc : X.calm = true) (hN : X.N.Nodup) (hi : QI X E tg iter di) (ok : BlkOk X.N X.env.scope scope [(x, i)])
    (hg : ∀ (s : Shared) (H : Hp) (C : Addr) (cl : List (Str × Addr)) (fp : List Addr), PG (X.blk s H scope (compEnvC scope cl C X.env) fp) tg (gName i))
    (he : ∀ (s : Shared) (H : Hp) (C : Addr) (cl : List (Str × Addr)) (fp : List Addr), QE (X.blk s H scope (compEnvC scope cl C X.env) fp) E0 elt de)
    (hs : ∀ x, foldedSetIterable iter X.env x = pure x := by intro _; rfl) : QN X E (.ListComp elt [⟨tg, iter, [], 0⟩] scope pos) (dLc di i dYes de) := by
  obtain ⟨wi, i1, i2⟩ := hi.ex
  exact ⟨_, pe_lc (own := [(x, i)]) (g := gName i) (tt := tYes) (te := tOfE X.K E0 de) hc hN i1 ok hg (fun _ _ _ _ _ => pts_nil) (fun s H C cl fp => (he s H C cl fp).can) hs, lc_core' i2 st_yes' se_can⟩
theorem q_lcif {elt tg iter c : Expr} {scope : Scope} {pos : Pos} {di : DI} {dt : DT} {de : DE} {x : Str} (i : Nat) (hc : X.calm = true) (hN : X.N.Nodup) (hi : QI X E tg iter di) (ok : BlkOk X.N X.env.scope scope [(x, i)])
    (hg : ∀ (s : Shared) (H : Hp) (C : Addr) (cl : List (Str × Addr)) (fp : List Addr), PG (X.blk s H scope (compEnvC scope cl C X.env) fp) tg (gName i))
    (ht : ∀ (s : Shared) (H : Hp) (C : Addr) (cl : List (Str × Addr)) (fp : List Addr), QT (X.blk s H scope (compEnvC scope cl C X.env) fp) E0 c dt)
    (he : ∀ (s : Shared) (H : Hp) (C : Addr) (cl : List (Str × Addr)) (fp : List Addr), QE (X.blk s H scope (compEnvC scope cl C X.env) fp) E0 elt de)
    (hs : ∀ x, foldedSetIterable iter X.env x = pure x := by intro _; rfl) : QN X E (.ListComp elt [⟨tg, iter, [c], 0⟩] scope pos) (dLc di i dt de) := by
  obtain ⟨wi, i1, i2⟩ := hi.ex
  exact ⟨_, pe_lc (own := [(x, i)]) (g := gName i) (tt := tOfT X.K E0 dt) (te := tOfE X.K E0 de) hc hN i1 ok hg (fun s H C cl fp => pts_one (ht s H C cl fp).can) (fun s H C cl fp => (he s H C cl fp).can) hs, lc_core' i2 st_can se_can⟩
end
end Kp

namespace Kp
open PySem PySem.Spec PyProof.Rows L2
/-! ### ways -/
theorem ifT {c : Bool} {A B : Prop} (hc : c = true) (h : A) : if c = true then A else B := by rw [if_pos hc]; exact h
theorem ifF {c : Bool} {A B : Prop} (hc : c = false) (h : B) : if c = true then A else B := by rw [hc, if_neg Bool.false_ne_true]; exact h
theorem if2 {c : Bool} {A B : Prop} (h1 : c = true → A) (h2 : c = false → B) : if c = true then A else B := by
  cases c with
  | true => exact ifT rfl (h1 rfl)
  | false => exact ifF rfl (h2 rfl)
theorem nT {b : Bool} (h : b = true) : (!b) = false := by rw [h]; rfl
theorem nF {b : Bool} (h : b = false) : (!b) = true := by rw [h]; rfl
theorem dT {c : Prop} [Decidable c] (h : c) : decide c = true := decide_eq_true h
theorem dF {c : Prop} [Decidable c] (h : ¬ c) : decide c = false := decide_eq_false h
theorem dT' {c : Prop} [Decidable c] (h : decide c = true) : c := of_decide_eq_true h
theorem dF' {c : Prop} [Decidable c] (h : decide c = false) : ¬ c := of_decide_eq_false h
/-- if (not b): the other way -/
theorem ifNT {b : Bool} {A B : Prop} (hb : b = true) (h : B) : if (!b) = true then A else B := ifF (nT hb) h
theorem ifNF {b : Bool} {A B : Prop} (hb : b = false) (h : A) : if (!b) = true then A else B := ifT (nF hb) h
theorem ifDT {c : Prop} [Decidable c] {A B : Prop} (hc : c) (h : A) : if (decide c) = true then A else B := ifT (dT hc) h
theorem ifDF {c : Prop} [Decidable c] {A B : Prop} (hc : ¬ c) (h : B) : if (decide c) = true then A else B := ifF (dF hc) h
theorem ifD2 {c : Prop} [Decidable c] {A B : Prop} (h1 : c → A) (h2 : ¬ c → B) : if (decide c) = true then A else B := if2 (fun h => h1 (dT' h)) fun h => h2 (dF' h)
theorem eqv_int (i j : Int) : PyData.eqv (.int i) (.int j) = decide (i = j) := by
  show (i == j) = decide (i = j)
  by_cases h : i = j
  · rw [h, decide_eq_true rfl]; simp
  · rw [decide_eq_false h]; simp [h]
theorem le_line {n : Nat} (h : n ≤ 100000) : n ≤ sizeLine := Nat.le_trans h (by decide)
theorem lt_line {n : Nat} (h : n ≤ 100000) : n < sizeLine := Nat.lt_of_le_of_lt h (by decide)
end Kp
namespace Kp
open PySem PySem.Spec PyProof.Rows L2
theorem at_data {xs : List PyData} {z : Int} {d : PyData} (e : 0 ≤ z) (h : xs[z.toNat]? = some d) : atI xs z = some d := by
  have q : z = (z.toNat : Int) := by omega
  rw [q]
  exact atI_nat h
end Kp
namespace Kp
open PySem PySem.Spec PyProof.Rows L2
/-- ints within -/
inductive AllI (lo hi : Int) : List PyData → Prop
  | nil : AllI lo hi []
  | cons {z : Int} {ds : List PyData} : lo ≤ z → z ≤ hi → AllI lo hi ds → AllI lo hi (.int z :: ds)
theorem AllI.get {lo hi : Int} : ∀ {ds : List PyData} {i : Nat}, AllI lo hi ds → i < ds.length → ∃ z, ds[i]? = some (.int z) ∧ lo ≤ z ∧ z ≤ hi
  | _, _, .nil, h => absurd h (Nat.not_lt_zero _)
  | _, 0, .cons h1 h2 _, _ => ⟨_, rfl, h1, h2⟩
  | _, i + 1, .cons _ _ t, h => by
    obtain ⟨z, h3, h4⟩ := AllI.get (i := i) t (by simpa using h)
    exact ⟨z, by simpa using h3, h4⟩
theorem pickI {lo hi : Int} {ds : List PyData} {i : Int} (h : AllI lo hi ds) (h0 : 0 ≤ i) (h1 : i < (ds.length : Int)) : ∃ z, atI ds i = some (.int z) ∧ lo ≤ z ∧ z ≤ hi := by
  obtain ⟨z, h2, h3⟩ := h.get (i := i.toNat) (by omega)
  exact ⟨z, at_data h0 h2, h3⟩
theorem AllI.app {lo hi : Int} : ∀ {xs ys : List PyData}, AllI lo hi xs → AllI lo hi ys → AllI lo hi (xs ++ ys)
  | _, _, .nil, h => h
  | _, _, .cons a b t, h => .cons a b (AllI.app t h)
theorem AllI.mono {lo hi lo' hi' : Int} (h1 : lo' ≤ lo) (h2 : hi ≤ hi') : ∀ {xs : List PyData}, AllI lo hi xs → AllI lo' hi' xs
  | _, .nil => .nil
  | _, .cons a b t => .cons (by omega) (by omega) (AllI.mono h1 h2 t)
theorem AllI.lay {lo hi : Int} : ∀ {ds : List PyData}, AllI lo hi ds → PyData.canLayAll0 ds = true ∧ PyData.depthAll ds ≤ 1
  | _, .nil => ⟨rfl, by decide⟩
  | _, .cons (z := z) (ds := ds) _ _ t => by
    obtain ⟨h1, h2⟩ := AllI.lay t
    refine ⟨?_, ?_⟩
    · show (PyData.canLay0 (.int z) && PyData.canLayAll0 ds) = true
      rw [h1]; rfl
    · show max (PyData.depth (.int z)) (PyData.depthAll ds) ≤ 1
      exact Nat.max_le.mpr ⟨by show 0 ≤ 1; decide, h2⟩
theorem AllI.shT {lo hi : Int} {ds : List PyData} (h : AllI lo hi ds) : SeqAt.shaped (.tuple ds) = true := by
  obtain ⟨h1, h2⟩ := h.lay
  show (PyData.canLayAll0 ds && decide (PyData.depthAll ds + 1 ≤ 64)) = true
  rw [h1, decide_eq_true (by omega)]; rfl
theorem AllI.shL {lo hi : Int} {ds : List PyData} (h : AllI lo hi ds) : SeqAt.shaped (.list ds) = true := by
  obtain ⟨h1, h2⟩ := h.lay
  show (PyData.canLayAll0 ds && decide (PyData.depthAll ds + 1 ≤ 64)) = true
  rw [h1, decide_eq_true (by omega)]; rfl
end Kp

namespace Kp
open PySem PySem.Spec PyProof.Rows L2
/-! ### a law's walk, calls that may let an exception out -/
theorem walk_x {l : PySem.W.OpenLaw} {n k : Nat} {q : Program} {loose : List Str} {XP : (Str → Option Value) → Heap → Prop} {YP : World → Heap → Prop} {d : DefRec} {x : Str} (hn : l.most = some n) (hn2 : n ≤ sizeLine) (hdf : d.params.defaults = []) (hr : Room k callerA)
    (F : ∀ (w : World) (mg : Str → Option Value) (fa : Addr) (h : Heap), YP w h → h.Ns mainGlobals mg → mg d.name = some (.ref fa) → ∃ (K : Frag) (fd : FuncData), K.In h ∧ (∀ (s : Shared) (u : Value), BindsTo s fd ⟨[u], []⟩ [(x, u)]) ∧
        ∀ base : Heap, K.In base → base.Ns mainGlobals mg → FnOk l.prog w K mg base (L2.CX l.prog w) k fa fd [x] (spD K (fLaw n))) :
    PySem.W.WalkO q loose XP YP l.row.toRowW d [] (fun f vs => PySem.call f vs) := by
  refine Att.attach_call hn hdf fun wd sA sB m1 m2 af ob pa co dc la us js Z1 Z2 z1 z2 z3 z4 z5 z6 z7 z8 => ?_
  obtain ⟨K, fd, q1, q2, q3⟩ := F wd m1 af _ Z2 Z1.T.g z4
  refine law_call q1 Z1.T.g Z1.T.b Z1.T.builtins Z1.T.nolimit z8 z5 z6 (Nat.le_trans z7 hn2) hr q3 q2 (fun _ _ hS => sp_law z7 hS) ?_
  rintro _ _ _ ⟨_, _, _, _, _, _, _, _, _, _, _, _, bad⟩
  exact bad
section
variable {P : Program} {w : World} {K : Frag} {mg : Str → Option Value} {base : Heap} {name qual : Str} {st : Stmt} {a : Addr} {fd : FuncData} {N ps : List Str} {k : Nat} {dvs : List V} {kws : List (Str × V)}
theorem fn_of {f : FD} {ds : DS} (F : FunD K name qual (defArgs st) (defBody st) (defScope st) dvs kws a fd) (S : FnScope N ps (defScope st)) (hlen : ∀ ss cs Ed Q, f ss cs Ed Q → ss.length = ps.length)
    (body : ∀ (cdv : Value) (A : Around) (outer : List Env) (s : Shared) (H : Hp) (E : XK), Room k (A.deeper (envOfC qual (defScope st) s.heap.objs.size a cdv)) → QSs (cxOf (L2.CX P w) P w K mg base N qual (defScope st) a cdv A outer s H E) E (defBody st) ds)
    (hf : ∀ ss cs Ed Qd, f ss cs Ed Qd → ds (DN0 Qd (fun _ _ => False) Ed) (ss ++ List.replicate (N.length - ss.length) .no) cs) : FnOk P w K mg base (L2.CX P w) (k + 1) a fd ps (spD K f) := by
  refine F.ok S (fun vs H Q E h => ?_) (fun cdv A outer s H vs Q E hr h => ?_)
  · obtain ⟨as, ss, cs, Ed, Qd, _, h2, _, h4, _⟩ := h
    rw [pr_len h2]
    exact hlen _ _ _ _ h4
  · obtain ⟨as, ss, cs, Ed, Qd, h1, h2, h3, h4, h5⟩ := h
    obtain ⟨t, b1, b2⟩ := (body cdv A outer s H E hr).ex
    refine ⟨t, b1, b2 as _ H _ cs _ (DN0 Qd (fun _ _ => False) Ed) h1 (ev_start N h2) h3 (hf _ _ _ _ h4) ⟨fun ex σ' H' ρ' cs' hf e w' ev q => ?_, fun ex σ' H' ρ' cs' hf e w' ev q => q.elim, fun ex σ' H' ρ' cs' hf e w' ev q => q.elim, fun v H' x cs' e w' d q => ?_, fun p kd H' ds cs' e f' w' q => by cases kd <;> exact q.elim⟩⟩
    · exact h5 .non H' .none _ e w'.drop .non q
    · exact h5 v H' x cs' e w' d q
end
end Kp

namespace Kp
open PySem PySem.Spec PyProof.Rows L2
section
variable {K : Frag}
/-! ### max, min of three -/
def big2 (i j : Int) : Int := if j > i then j else i
def cMax3 : RC := fun ds Q => match ds with
  | [.int i, .int j, .int l] => Q (.int (big2 (big2 i j) l))
  | _ => False
theorem nu_big (i j : Int) : nuMax2 (.int i) (.int j) = some (.int (big2 i j)) := by
  show (some (decide (i < j))).map (fun c => if c = true then V.int j else V.int i) = _
  unfold big2
  by_cases h : i < j
  · rw [decide_eq_true h, if_pos h]; rfl
  · rw [decide_eq_false h, if_neg h]; rfl
theorem sc_max3 : SC K (rNuC3 nuMax3) cMax3 := fun as H cs vs ds Qd Q w d h k => by
  match ds, d with
  | [.int i, .int j, .int l], .cons (.int _) (.cons (.int _) (.cons (.int _) .nil)) =>
    refine ⟨_, _, _, _, rfl, ?_, k _ H _ (Same.refl H) (.int _) h⟩
    show (nuMax2 (.int i) (.int j)).bind (fun m => nuMax2 m (.int l)) = _
    rw [nu_big]
    exact nu_big _ _
/-! ### return [e, ..], return (e, ..): the def's own cells among them -/
def allC (m : Nat) (cs : CS) : List Sl → Option (List PyData)
  | [] => some []
  | .d x :: r => (allC m cs r).map (x :: ·)
  | .c j :: r => if j < m then (match cs[j]? with
    | some ds => (allC m cs r).map (.list ds :: ·)
    | none => none) else none
  | _ :: _ => none
theorem allC_ok {as : List CA} {H : Hp} {m : Nat} {cs : CS} (w : Wk K H as cs) : ∀ {vs : List V} {ss : List Sl} {ds : List PyData}, Ar K H as vs ss → allC m cs ss = some ds → DqAll K (hid H (as.drop m)) vs ds
  | _, _, _, .nil, e => by
    cases (show some [] = some _ from e)
    exact .nil
  | _, s :: r, ds, .cons h t, e => by
    cases s with
    | no => exact (h.2 rfl).elim
    | f _ => cases e
    | k _ _ => cases e
    | o _ _ => cases e
    | g _ _ => cases e
    | x _ => cases e
    | fn _ => cases e
    | lm _ => cases e
    | d x =>
      have e2 : (allC m cs r).map (x :: ·) = some ds := e
      cases q : allC m cs r with
      | none => rw [q] at e2; cases e2
      | some rs =>
        rw [q] at e2
        cases e2
        obtain ⟨v, h1, h2⟩ := h.1
        cases h1
        exact .cons (h2.mono (hid_drop m)) (allC_ok w t q)
    | c j =>
      have e2 : (if j < m then (match cs[j]? with
        | some ds => (allC m cs r).map (.list ds :: ·)
        | none => none) else none) = some ds := e
      by_cases hj : j < m
      · rw [if_pos hj] at e2
        obtain ⟨a, h1, h2⟩ := h.1
        cases h2
        cases q1 : cs[j]? with
        | none => rw [q1] at e2; cases e2
        | some es =>
          rw [q1] at e2
          have e3 : (allC m cs r).map (PyData.list es :: ·) = some ds := e2
          cases q : allC m cs r with
          | none => rw [q] at e3; cases e3
          | some rs =>
            rw [q] at e3
            cases e3
            obtain ⟨xs, h4, h5⟩ := w.lst h1 q1
            exact .cons (.lst (by rw [hid_out (w.ndrop h1 hj)]; exact h4) (h5.mono (hid_drop m))) (allC_ok w t q)
      · rw [if_neg hj] at e2
        cases e2
def dRetLC (da : DA) : DS := fun Dd ρ cs => da ρ cs Dd.ex fun ss cs1 => match allC Dd.m cs1 ss with
  | some ds => ds.length ≤ sizeLine ∧ Dd.rt (.list ds) cs1
  | none => False
def dRetTC (da : DA) : DS := fun Dd ρ cs => da ρ cs Dd.ex fun ss cs1 => match allC Dd.m cs1 ss with
  | some ds => ds.length ≤ sizeLine ∧ Dd.rt (.tuple ds) cs1
  | none => False
theorem not_drop {H : Hp} {as : List CA} {p : Addr} (h : Vs H as p) (m : Nat) : Vs H (as.drop m) p := h.drop m
theorem q_retLC {X : Cx} {E : XK} {es : List Expr} {p1 pos : Pos} {da : DA} (ha : QA X E es da) : QS X E (.Return (some (.List es p1)) pos) (dRetLC da) := by
  obtain ⟨ta, a1, a2⟩ := ha.ex
  refine ⟨_, ps_ret (pe_lst a1), fun as σ H ρ cs D Dd w ev ek h S => a2 as σ H ρ cs Dd.ex _ _ w ev ek h fun vs H1 ss cs1 e1 w1 d1 h1 => ?_⟩
  cases q : allC Dd.m cs1 ss with
  | none => rw [q] at h1; exact h1.elim
  | some ds =>
    rw [q] at h1
    have d2 := allC_ok w1 d1 q
    exact ⟨by rw [d2.len]; exact h1.1, fun p hp => S.rt _ _ _ cs1 (e1.trans (Ext.of (Same.new hp))) (w1.grow (Same.new hp)) (.lst (hid_new (not_drop (w1.fresh hp) _)) (d2.mono (new_mono hp))) h1.2⟩
theorem q_retTC {X : Cx} {E : XK} {es : List Expr} {x1 : Nat} {p1 pos : Pos} {da : DA} (ha : QA X E es da) : QS X E (.Return (some (.Tuple es x1 p1)) pos) (dRetTC da) := by
  obtain ⟨ta, a1, a2⟩ := ha.ex
  refine ⟨_, ps_ret (pe_tup a1), fun as σ H ρ cs D Dd w ev ek h S => a2 as σ H ρ cs Dd.ex _ _ w ev ek h fun vs H1 ss cs1 e1 w1 d1 h1 => ?_⟩
  cases q : allC Dd.m cs1 ss with
  | none => rw [q] at h1; exact h1.elim
  | some ds =>
    rw [q] at h1
    have d2 := allC_ok w1 d1 q
    exact ⟨by rw [d2.len]; exact h1.1, fun p hp => S.rt _ _ _ cs1 (e1.trans (Ext.of (Same.new hp))) (w1.grow (Same.new hp)) (.tup (SqT.of (hid_new (not_drop (w1.fresh hp) _))) (d2.mono (new_mono hp))) h1.2⟩
/-! ### a stop between two statements -/
theorem d_mid {d1 rest : DS} {Dd : DN} {ρ : List Sl} {cs : CS} (Mid : List Sl → CS → Prop) (hB : ∀ Dd' : DN, Dd'.m = Dd.m → Dd'.rt = Dd.rt → (∀ ρ' cs', Mid ρ' cs' → Dd'.nx 0 ρ' cs') → d1 Dd' ρ cs) (hA : ∀ ρ' cs', Mid ρ' cs' → rest (Dd.push 0) ρ' cs') : dSeq d1 rest Dd ρ cs := hB _ rfl rfl hA
end
end Kp

namespace Kp
open PySem PySem.Spec PyProof.Rows L2
/-! ### repr: nothing is being shown around it -/
/-- its text, where it may be shown -/
def showB (d : PyData) : Bool := d.showable && (!d.hasDict && (SeqAt.shaped d && decide (d.shown.length ≤ sizeLine)))
def reprD : PyData → Str
  | .bool b => if b then "True" else "False"
  | .none => "None"
  | d => d.shown
def cRepr : RC := fun ds Q => match ds with
  | [.bool b] => Q (.str (reprD (.bool b)))
  | [.none] => Q (.str (reprD .none))
  | [.tuple xs] => showB (.tuple xs) = true ∧ Q (.str (reprD (.tuple xs)))
  | [.list xs] => showB (.list xs) = true ∧ Q (.str (reprD (.list xs)))
  | [.int i] => i.natAbs.log2 < 1920 ∧ Q (.str (toString i))
  | _ => False
def rRepr (K : Frag) : List V → Hp → VK → Prop := fun xs H Q =>
  (∃ b, xs = [.bl b] ∧ Q (.str (reprD (.bool b))) H) ∨ (xs = [.non] ∧ Q (.str (reprD .none)) H) ∨ (∃ i, xs = [.int i] ∧ i.natAbs.log2 < 1920 ∧ Q (.str (toString i)) H) ∨ ∃ a d, xs = [.ref a] ∧ Dp K H (.ref a) d ∧ showB d = true ∧ Q (.str d.shown) H
theorem call_repr_d {X : Cx} (hg : X.A.guards = some []) (hu : X.A.units + 100 < cLine) : CallR X (.builtin "repr") (rRepr X.K) := by
  intro pins s σ H xs us Q I r h
  rcases h with ⟨b, rfl, q⟩ | ⟨rfl, q⟩ | ⟨i, rfl, hz, q⟩ | ⟨a, d, rfl, hd, hs, q⟩
  · obtain ⟨u, rfl, r1⟩ := vals1 r
    obtain rfl : u = Value.bool b := r1
    exact PySem.P.repr_of_bool ⟨.str _, H, I.tok _, ⟨_, rfl⟩, q⟩
  · obtain ⟨u, rfl, r1⟩ := vals1 r
    obtain rfl : u = Value.none := r1
    exact PySem.P.repr_of_none ⟨.str _, H, I.tok _, ⟨_, rfl⟩, q⟩
  · obtain ⟨u, rfl, t, rfl⟩ := vals1 r
    exact PySem.P.repr_of_int hz ⟨.str _, H, I.tok _, ⟨_, rfl⟩, q⟩
  · obtain ⟨u, rfl, r1⟩ := vals1 r
    obtain rfl : u = Value.ref a := r1
    obtain ⟨as, rd⟩ := Dp.reads I d (.ref a) (.ref a) hd rfl
    obtain ⟨s1, s2⟩ := Bool.and_eq_true_iff.mp (show (d.showable && (!d.hasDict && (SeqAt.shaped d && decide (d.shown.length ≤ sizeLine)))) = true from hs)
    obtain ⟨s3, s4⟩ := Bool.and_eq_true_iff.mp s2
    obtain ⟨s5, s6⟩ := Bool.and_eq_true_iff.mp s4
    have dd : d.depth ≤ 64 := by
      have z := (Bool.and_eq_true_iff.mp (show (PyData.canLay0 d && decide (PyData.depth d ≤ 64)) = true from s5)).2
      exact of_decide_eq_true z
    exact repr_of_reads' rd s1 (PyData.noDict_hsm (by cases q2 : d.hasDict with | true => rw [q2] at s3; cases s3 | false => rfl)) hg (by omega) (fun _ _ e => e) (fun h' u tk k => ⟨.str _, H, I.kept k, ⟨_, rfl⟩, q⟩) (of_decide_eq_true s6)
section
variable {K : Frag}
theorem canLay_show {d : PyData} (h : showB d = true) : d.canLay0 = true := by
  obtain ⟨_, s2⟩ := Bool.and_eq_true_iff.mp (show (d.showable && (!d.hasDict && (SeqAt.shaped d && decide (d.shown.length ≤ sizeLine)))) = true from h)
  exact SeqAt.canLay_of_shaped (Bool.and_eq_true_iff.mp (Bool.and_eq_true_iff.mp s2).2).1
theorem sc_repr : SC K (rRepr K) cRepr := fun as H cs vs ds Qd Q w d h k => by
  match ds, d with
  | [.bool b], .cons (.bl _) .nil => exact .inl ⟨b, rfl, k _ H _ (Same.refl H) (.str _) h⟩
  | [.none], .cons .non .nil => exact .inr (.inl ⟨rfl, k _ H _ (Same.refl H) (.str _) h⟩)
  | [.int i], .cons (.int _) .nil => exact .inr (.inr (.inl ⟨i, rfl, h.1, k _ H _ (Same.refl H) (.str _) h.2⟩))
  | [.tuple xs], .cons (.tup h1 h2) .nil => exact .inr (.inr (.inr ⟨_, .tuple xs, rfl, dp_mono (hid_sub H as) ((Dq.tup h1 h2).dp (canLay_show h.1)), h.1, k _ H _ (Same.refl H) (.str _) h.2⟩))
  | [.list xs], .cons (.lst h1 h2) .nil => exact .inr (.inr (.inr ⟨_, .list xs, rfl, dp_mono (hid_sub H as) ((Dq.lst h1 h2).dp (canLay_show h.1)), h.1, k _ H _ (Same.refl H) (.str _) h.2⟩))
end
/-! ### defs that show something -/
structure FnG (P : Program) (w : World) (K : Frag) (mg : Str → Option Value) (base : Heap) (C : CXT) (k : Nat) (f : Addr) (fd : FuncData) (ps : List Str) (sp : Sp) : Prop where
  len : ∀ vs H Q E, sp vs H Q E → vs.length = ps.length
  run : ∀ (A : Around) (outer : List Env) (s : Shared) (H : Hp) (args : Args) (us : List Value) (vs : List V) (Q : VK) (E : XK), Room k A → A.guards = some [] → Env0 P w K mg base A outer s H → BindsTo s fd args (ps.zip us) → Vals vs us → sp vs H Q E →
    codeAny (model P w) A (.call (.ref f) args) (CR C outer P w H s Q E) s
theorem fg_of {C : CXT} {P : Program} {w : World} {K : Frag} {mg : Str → Option Value} {base : Heap} {k : Nat} {f : Addr} {fd : FuncData} {x qual : Str} {params : Arguments} {body : List Stmt} {scope : Scope} {dvs : List V} {kws : List (Str × V)} {N ps : List Str} {sp : Sp}
    (F : FunD K x qual params body scope dvs kws f fd) (S : FnScope N ps scope) (len : ∀ vs H Q E, sp vs H Q E → vs.length = ps.length)
    (hb : ∀ (cdv : Value) (A : Around) (outer : List Env) (s : Shared) (H : Hp) (vs : List V) (Q : VK) (E : XK), Room k (A.deeper (envOfC qual scope s.heap.objs.size f cdv)) → A.guards = some [] → sp vs H Q E →
      ∃ t, PSs (cxOf C P w K mg base N qual scope f cdv A outer s H E) body t ∧ t { nx := fun _ H' => Q .non H', rt := Q } (L2.start N vs) H) : FnG P w K mg base C (k + 1) f fd ps sp := by
  obtain ⟨z1, z2, z3, z4, z5, z6, z7, cdv, z8, z9, rfl, at_, code, -, -⟩ := F.ex
  refine ⟨len, fun A outer s H args us vs Q E room gd e0 bind rel prom => ?_⟩
  have len' := len _ _ _ _ prom
  have kin : K.In s.heap := e0.mod.kin.keeps fun b o e => (e0.bs b o e).1
  have nolim : s.heap.NoLimit := e0.mod.nolimit.keeps fun b o e => (e0.bs b o e).1
  have kinds : ∀ y ∈ ps.zip us, scope.names.lookup y.1 = some .local ∨ (scope.names.lookup y.1 = some .cell ∧ ((cellsFrom (s.heap.objs.size + 1) scope.names []).lookup y.1).isSome = true) := by
    rintro ⟨n, v⟩ hy
    rcases S.par n (List.of_mem_zip hy).1 with q | q
    · exact .inl q
    · exact .inr ⟨q, PySem.W.cellsFrom_some _ _ _ (.inl q)⟩
  refine codeAny_call_function room.depth (kin _ _ at_) rfl S.co S.gen rfl (PySem.W.codeRec_of kin code) (bind _ _ _ _ ?_)
  refine wpAny_newFunctionEnv_cells S.kind kinds fun env henv s1 made => ?_
  subst henv
  refine ⟨nolim.keeps made.toInCall.keep, codeAny_func ?_⟩
  obtain ⟨t, ht, ht2⟩ := hb cdv A outer s H vs Q E (room.deeper _) gd prom
  have I : Inv (cxOf C P w K mg base N qual scope f cdv A outer s H E) [] (L2.start N vs) H s1 := inv_start S room.hd e0 len' rel made
  refine wpAny_mono (ht.run [] s1 (L2.start N vs) H _ I ht2) (fun fl s' ends => ?_) fun e s' ends => ends
  cases fl with
  | ret u =>
    obtain ⟨v, σ', H', J, rv, q⟩ := ends
    exact ⟨v, H', J.os, J.bare, J.base, J.hok, rv, q⟩
  | next =>
    obtain ⟨σ', H', J, q⟩ := ends
    exact ⟨V.non, H', J.os, J.bare, J.base, J.hok, rfl, q⟩
  | brk =>
    obtain ⟨_, _, _, q⟩ := ends
    exact q.elim
  | cont =>
    obtain ⟨_, _, _, q⟩ := ends
    exact q.elim
structure CalG (P : Program) (w : World) (K : Frag) (mg : Str → Option Value) (base : Heap) (k : Nat) (name : Str) (ps : List Str) (f : FD) : Prop where
  ex : ∃ (a : Addr) (fd : FuncData), mg name = some (.ref a) ∧ PySem.W.keepIn K (.ref a) = true ∧ FnG P w K mg base (L2.CX P w) k a fd ps (spD K f) ∧ Binds K fd ps []
section
variable {X : Cx} {E : XK}
theorem q_callG {k : Nat} {name : Str} {ps : List Str} {f : FD} {e : Expr} {es : List Expr} {p pos : Pos} {da : DA} (F : CalG X.prog X.w X.K X.mg X.base k name ps f) (gd : X.A.guards = some []) (hr : Room k X.A) (hx : Passes (L2.CX X.prog X.w) X E) (ha : QA X E (e :: es) da)
    (hg : Gl X name := by rfl) (hdb : (name == ("__debug__" : Str)) = false := by decide) (he : starEach (e :: es) X.env = (false, eval e X.env) :: starEach es X.env := by rfl) (hpl : (backTo pos (starEach es X.env)).any (·.1) = false := by rfl) :
    QE X E (.Call (.Name name p) (e :: es) [] pos) (dCall f da) := by
  obtain ⟨a, fd, h1, h2, h3, h4⟩ := F.ex
  obtain ⟨ta, a1, a2⟩ := ha.ex
  refine ⟨_, ⟨fun pins s σ H Q I h => ?_⟩, se_call a2⟩
  refine wpAny_Call_Name_kw (ld_glob I hg h1 ?_ hdb)
  refine PySem.W.callWith_K (h₀ := X.base) I.ok.mod.kin h2 (thn (a1.run pos pins s σ H _ I h) fun us s1 ⟨vs, H1, I1, r, q⟩ => ⟨I1.kIn, ?_⟩) he hpl
  have hl : (us ++ []).length = ps.length := by
    rw [List.append_nil, ← r.length]
    have z := h3.len _ _ _ _ q
    rw [List.append_nil] at z
    exact z
  have r2 : Vals (vs ++ []) (us ++ []) := by rw [List.append_nil, List.append_nil]; exact r
  refine wpAny_call (codeAny_mono (h3.run X.A X.stack s1 H1 ⟨us, []⟩ (us ++ []) (vs ++ []) Q E hr gd I1.env0 (h4 s1 us I1.kIn hl) r2 q) fun res s' hq => ?_)
  cases res with
  | error e => exact hx pins σ H1 s1 e s' I1 hq
  | ok fl =>
    cases fl with
    | ret u => exact I1.after hq
    | next => exact False.elim hq
    | brk => exact False.elim hq
    | cont => exact False.elim hq
end
section
variable {P : Program} {w : World} {K : Frag} {mg : Str → Option Value} {base : Heap} {name qual : Str} {st : Stmt} {a : Addr} {fd : FuncData} {N ps : List Str} {k : Nat} {dvs : List V} {kws : List (Str × V)}
theorem fnG_of {f : FD} {ds : DS} (F : FunD K name qual (defArgs st) (defBody st) (defScope st) dvs kws a fd) (S : FnScope N ps (defScope st)) (hlen : ∀ ss cs Ed Q, f ss cs Ed Q → ss.length = ps.length)
    (body : ∀ (cdv : Value) (A : Around) (outer : List Env) (s : Shared) (H : Hp) (E : XK), Room k (A.deeper (envOfC qual (defScope st) s.heap.objs.size a cdv)) → A.guards = some [] → QSs (cxOf (L2.CX P w) P w K mg base N qual (defScope st) a cdv A outer s H E) E (defBody st) ds)
    (hf : ∀ ss cs Ed Qd, f ss cs Ed Qd → ds (DN0 Qd (fun _ _ => False) Ed) (ss ++ List.replicate (N.length - ss.length) .no) cs) : FnG P w K mg base (L2.CX P w) (k + 1) a fd ps (spD K f) := by
  refine fg_of F S (fun vs H Q E h => ?_) (fun cdv A outer s H vs Q E hr gd h => ?_)
  · obtain ⟨as, ss, cs, Ed, Qd, _, h2, _, h4, _⟩ := h
    rw [pr_len h2]
    exact hlen _ _ _ _ h4
  · obtain ⟨as, ss, cs, Ed, Qd, h1, h2, h3, h4, h5⟩ := h
    obtain ⟨t, b1, b2⟩ := (body cdv A outer s H E hr gd).ex
    refine ⟨t, b1, b2 as _ H _ cs _ (DN0 Qd (fun _ _ => False) Ed) h1 (ev_start N h2) h3 (hf _ _ _ _ h4) ⟨fun ex σ' H' ρ' cs' hf e w' ev q => ?_, fun ex σ' H' ρ' cs' hf e w' ev q => q.elim, fun ex σ' H' ρ' cs' hf e w' ev q => q.elim, fun v H' x cs' e w' d q => ?_, fun p kd H' ds cs' e f' w' q => by cases kd <;> exact q.elim⟩⟩
    · exact h5 .non H' .none _ e w'.drop .non q
    · exact h5 v H' x cs' e w' d q
theorem calG_of {f : FD} {ds : DS} (F : FunD K name qual (defArgs st) (defBody st) (defScope st) dvs kws a fd) (S : FnScope N ps (defScope st)) (hb : Binds K fd ps []) (hm : mg name = some (.ref a)) (hlen : ∀ ss cs Ed Q, f ss cs Ed Q → ss.length = ps.length)
    (body : ∀ (cdv : Value) (A : Around) (outer : List Env) (s : Shared) (H : Hp) (E : XK), Room k (A.deeper (envOfC qual (defScope st) s.heap.objs.size a cdv)) → A.guards = some [] → QSs (cxOf (L2.CX P w) P w K mg base N qual (defScope st) a cdv A outer s H E) E (defBody st) ds)
    (hf : ∀ ss cs Ed Qd, f ss cs Ed Qd → ds (DN0 Qd (fun _ _ => False) Ed) (ss ++ List.replicate (N.length - ss.length) .no) cs) : CalG P w K mg base (k + 1) name ps f :=
  ⟨a, fd, hm, F.kp, fnG_of F S hlen body hf, hb⟩
end
end Kp

namespace Kp
open PySem PySem.Spec PyProof.Rows L2
/-- a heap in which the script stands, frozen; nothing else of it is looked at -/
def only1 (a : Addr) (vs : List Value) (ns : List Int) : Hp := fun b => if b = a then some (.frz { cls := .type "list", data := .seq vs.toArray } (.lst (ns.map V.int))) else none
theorem only1_at {a : Addr} {vs : List Value} {ns : List Int} : only1 a vs ns a = some (.frz { cls := .type "list", data := .seq vs.toArray } (.lst (ns.map V.int))) := if_pos rfl
theorem only1_of {a b : Addr} {vs : List Value} {ns : List Int} {u : HO} (h : only1 a vs ns b = some u) : b = a := by
  by_cases q : b = a
  · exact q
  · rw [show only1 a vs ns b = none from if_neg q] at h; cases h
/-- the whole law's call, a promise for where nothing is being shown -/
theorem law_callG {P : Program} {w : World} {K : Frag} {mg mb : Str → Option Value} {k : Nat} {fa a : Addr} {fd : FuncData} {x : Str} {n : Nat} {s : Shared} {vs : List Value} {ns : List Int}
    (KX : K.In s.heap) (hns : s.heap.Ns mainGlobals mg) (hb : s.heap.Ns builtinsNs mb) (hbb : ∀ x : Str, x ≠ "__name__" → mb x = bootBuiltins x) (hlim : s.heap.NoLimit) (hg : s.gens = #[]) (ha : s.heap.get? a = some { cls := .type "list", data := .seq vs.toArray }) (hi : IntsAre vs ns)
    (hn : ns.length ≤ n) (hl : n ≤ sizeLine) (hr : Room k callerA) (F : ∀ base : Heap, FnG P w K mg base (L2.CX P w) k fa fd [x] (spD K (fLaw n))) (bind : ∀ (s : Shared) (u : Value), BindsTo s fd ⟨[u], []⟩ [(x, u)]) :
    codeAny (model P w) callerA (.call (.ref fa) ⟨[.ref a], []⟩) (fun r s' => r = .ok (.ret (.bool true)) ∧ OldK s.heap s'.heap ∧ s'.os = s.os ∧ AllBare s'.gens) s := by
  have same := hi.length
  have go : ∀ H : Hp, SqL K H a (ns.map V.int) → HOk P w H s.heap → (∀ b u, H b = some u → b = a ∧ ∃ o xs, u = .frz o xs) → (H a ≠ none → K.lookup a = none) →
      codeAny (model P w) callerA (.call (.ref fa) ⟨[.ref a], []⟩) (fun r s' => r = .ok (.ret (.bool true)) ∧ OldK s.heap s'.heap ∧ s'.os = s.os ∧ AllBare s'.gens) s := by
    intro H hS ok hA hK
    have dict0 : ∀ {b : Addr} {o : Obj} {es : Array DictEntry} {ep : Nat}, s.heap.get? b = some o → o.data = .dict es ep → H b = none := by
      intro b o es ep e d
      cases q : H b with
      | none => rfl
      | some u =>
        obtain ⟨rfl, -⟩ := hA b u q
        rw [ha] at e
        cases e
        cases (show Data.seq vs.toArray _ = Data.dict es ep from d)
    have names : ∀ {b : Addr} {m : Str → Option Value}, s.heap.Ns b m → (L2.hidT s.heap H).Ns b m := fun {b m} ⟨o, es, ep, e, d, r⟩ => ⟨o, es, ep, hidT_get e (dict0 e d), d, r⟩
    have kin : K.In (L2.hidT s.heap H) := fun b o e => hidT_get (KX b o e) (by
      cases q : H b with
      | none => rfl
      | some u =>
        obtain ⟨rfl, -⟩ := hA b u q
        rw [hK (by rw [q]; simp)] at e
        cases e)
    have md : L2.Mod K mg (L2.hidT s.heap H) := ⟨kin, names hns, ⟨mb, names hb, hbb⟩, let ⟨mc, h1, h2⟩ := hlim; ⟨mc, names h1, h2⟩⟩
    have e0 : Env0 P w K mg (L2.hidT s.heap H) callerA [] s H := ⟨rfl, md, fun b o e => of_hidT e, Nat.le_of_eq (hidT_size _ _), trivial, fun b hb => (List.not_mem_nil hb).elim, ok, .of_eq hg⟩
    refine codeAny_mono ((F _).run callerA [] s H ⟨[.ref a], []⟩ [.ref a] [.ref a] _ _ hr rfl e0 (bind s (.ref a)) (.cons rfl .nil) (sp_law hn hS)) fun r s' h => ?_
    cases r with
    | error e =>
      obtain ⟨_, _, _, _, _, _, _, _, _, _, _, _, bad⟩ := (show L2.CX P w [] H s (fun _ _ _ => False) e s' from h)
      exact bad.elim
    | ok fl =>
      cases fl with
      | next => exact False.elim h
      | brk => exact False.elim h
      | cont => exact False.elim h
      | ret u =>
        obtain ⟨v, H', os, bare, un, ok', rv, q⟩ := h
        obtain rfl : v = .bl true := q
        obtain rfl : u = Value.bool true := rv
        refine ⟨rfl, OldK.of_keep fun b o e => ?_, os, bare⟩
        cases q : H b with
        | none => exact un.keep b o e q (fun z => (List.not_mem_nil z).elim) (by simp)
        | some u =>
          obtain ⟨rfl, ob, xs, rfl⟩ := hA b u q
          obtain ⟨e1, _⟩ := ok b _ q
          obtain ⟨e2, _⟩ := ok' b _ (un.frzs b ob _ q)
          rw [e] at e1
          cases e1
          exact e2
  cases hk : K.lookup a with
  | some o =>
    have e := KX a o hk
    rw [ha] at e
    cases e
    exact go (fun _ => none) (.inr ⟨_, vs.toArray, _, hk, rfl, rfl, rfl, by rw [List.size_toArray, same]; omega, by simpa using vals_ints hi⟩) (fun b u z => nomatch (show (none : Option HO) = some u from z)) (fun b u z => nomatch (show (none : Option HO) = some u from z)) fun z => absurd rfl z
  | none =>
    refine go (only1 a vs ns) (.inl (.inr ⟨_, only1_at⟩)) (fun b u z => ?_) (fun b u z => ?_) fun _ => hk
    · obtain rfl := only1_of z
      rw [only1_at] at z
      cases z
      exact ⟨ha, by rw [List.length_map]; omega, vs, _, vals_ints hi, ha⟩
    · obtain rfl := only1_of z
      rw [only1_at] at z
      cases z
      exact ⟨rfl, _, _, rfl⟩
theorem walk_g {l : PySem.W.OpenLaw} {n k : Nat} {q : Program} {loose : List Str} {XP : (Str → Option Value) → Heap → Prop} {YP : World → Heap → Prop} {d : DefRec} {x : Str} (hn : l.most = some n) (hn2 : n ≤ sizeLine) (hdf : d.params.defaults = []) (hr : Room k callerA)
    (F : ∀ (w : World) (mg : Str → Option Value) (fa : Addr) (h : Heap), YP w h → h.Ns mainGlobals mg → mg d.name = some (.ref fa) → ∃ (K : Frag) (fd : FuncData), K.In h ∧ (∀ (s : Shared) (u : Value), BindsTo s fd ⟨[u], []⟩ [(x, u)]) ∧
        ∀ base : Heap, FnG l.prog w K mg base (L2.CX l.prog w) k fa fd [x] (spD K (fLaw n))) :
    PySem.W.WalkO q loose XP YP l.row.toRowW d [] (fun f vs => PySem.call f vs) := by
  refine Att.attach_call hn hdf fun wd sA sB m1 m2 af ob pa co dc la us js Z1 Z2 z1 z2 z3 z4 z5 z6 z7 z8 => ?_
  obtain ⟨K, fd, q1, q2, q3⟩ := F wd m1 af _ Z2 Z1.T.g z4
  exact law_callG q1 Z1.T.g Z1.T.b Z1.T.builtins Z1.T.nolimit z8 z5 z6 z7 hn2 hr q3 q2
end Kp

namespace Kp
open PySem PySem.Spec PyProof.Rows L2
section
variable {X : Cx} {E : XK}
/-! ### list(e): a new list of one's own -/
def dNlV (i : Nat) : DL := fun ρ cs _ Q => ∃ ds, itemsOf cs ρ[i]? = some ds ∧ Q ds cs
theorem q_nlistV {a : Expr} {p pos : Pos} (i : Nat) (ha : PE X a (tVar i)) (hm : X.mg "list" = none) (hg : Gl X "list" := by rfl)
    (he : starEach [a] X.env = (false, eval a X.env) :: starEach [] X.env := by rfl) (hpl : (backTo pos (starEach [] X.env)).any (·.1) = false := by rfl) : QN X E (.Call (.Name "list" p) [a] [] pos) (dNlV i) := by
  refine ⟨_, pe_callTy call_list_of hg hm boot_list' (pa_cons ha pa_nil he) (he := he) (hpl := hpl), fun as σ H ρ cs Ed Qd Q w e ek h k => ?_⟩
  obtain ⟨ds, h1, h2⟩ := h
  obtain ⟨a, xs, h3, h4, h5⟩ := slot_items w e h1
  exact ⟨_, h3, a, xs, rfl, h4.imp_right hidT, fun q hq => k q _ ds cs (Ext.of (Same.new hq)) hq (w.newc hq (h5.mono (new_cons hq))) h2⟩
def dNl (da : DE) : DL := fun ρ cs Ed Q => da ρ cs Ed fun x cs1 => match x with
  | .tuple ds => Q ds cs1
  | .list ds => Q ds cs1
  | _ => False
theorem q_nlist {a : Expr} {p pos : Pos} {da : DE} (ha : QE X E a da) (hm : X.mg "list" = none) (hg : Gl X "list" := by rfl)
    (he : starEach [a] X.env = (false, eval a X.env) :: starEach [] X.env := by rfl) (hpl : (backTo pos (starEach [] X.env)).any (·.1) = false := by rfl) : QN X E (.Call (.Name "list" p) [a] [] pos) (dNl da) := by
  obtain ⟨ta, a1, a2⟩ := ha.ex
  refine ⟨_, pe_callTy call_list_of hg hm boot_list' (pa_cons a1 pa_nil he) (he := he) (hpl := hpl), fun as σ H ρ cs Ed Qd Q w e ek h k => a2 as σ H ρ cs Ed _ _ w e ek h fun v H1 x cs1 e1 w1 d1 h1 => ?_⟩
  cases d1 with
  | lst g1 g2 => exact ⟨_, _, rfl, .inl (SqL.of (hid1 g1)), fun q hq => k q _ _ cs1 (e1.trans (Ext.of (Same.new hq))) (fresh_of w1 e1 hq) (w1.newc hq (g2.mono (new_cons hq))) h1⟩
  | tup g1 g2 => exact ⟨_, _, rfl, .inr (hidT g1), fun q hq => k q _ _ cs1 (e1.trans (Ext.of (Same.new hq))) (fresh_of w1 e1 hq) (w1.newc hq (g2.mono (new_cons hq))) h1⟩
  | _ => exact h1.elim
end
/-! ### small numbers are shown -/
theorem log_small {i : Int} (h : i.natAbs < 10 ^ 12) : i.natAbs.log2 < 1920 := by
  by_cases z : i.natAbs = 0
  · rw [z]; decide
  · rw [Nat.log2_lt z]
    exact Nat.lt_of_lt_of_le h (by decide +kernel)
inductive Sml : List PyData → Prop
  | nil : Sml []
  | cons {i : Int} {ds : List PyData} : i.natAbs < 10 ^ 12 → Sml ds → Sml (.int i :: ds)
theorem Sml.facts : ∀ {ds : List PyData}, Sml ds → PyData.showableAll ds = true ∧ PyData.hasDictAll ds = false ∧ PyData.canLayAll0 ds = true ∧ PyData.depthAll ds ≤ 1 ∧ PyData.intsShortAll 13 ds = true
  | _, .nil => ⟨rfl, rfl, rfl, by decide, rfl⟩
  | _, .cons (i := i) (ds := ds) h t => by
    obtain ⟨h1, h2, h3, h4, h5⟩ := Sml.facts t
    refine ⟨?_, ?_, ?_, ?_, ?_⟩
    · show (decide (i.natAbs.log2 < 1920) && PyData.showableAll ds) = true
      rw [decide_eq_true (log_small h), h1]; rfl
    · show (false || PyData.hasDictAll ds) = false
      rw [h2]; rfl
    · show (PyData.canLay0 (.int i) && PyData.canLayAll0 ds) = true
      rw [h3]; rfl
    · show max (PyData.depth (.int i)) (PyData.depthAll ds) ≤ 1
      exact Nat.max_le.mpr ⟨by show 0 ≤ 1; decide, h4⟩
    · show (PyData.intsShort 13 (.int i) && PyData.intsShortAll 13 ds) = true
      rw [h5, show PyData.intsShort 13 (.int i) = true from decide_eq_true (PyData.shown_int_le h)]; rfl
theorem Sml.weight : ∀ {ds : List PyData}, Sml ds → PyData.weightAll ds ≤ 41 * ds.length
  | _, .nil => Nat.zero_le _
  | _, .cons (i := i) (ds := ds) h t => by
    have z := Sml.weight t
    have e : (if i == 0 then 0 else i.natAbs.log2 + 1) ≤ 40 := by
      split
      · exact Nat.zero_le _
      · rename_i c
        have nz : i.natAbs ≠ 0 := fun q => c (by simp; omega)
        have : i.natAbs.log2 < 40 := (Nat.log2_lt nz).mpr (Nat.lt_of_lt_of_le h (by decide))
        omega
    have e2 : PyData.weight (.int i) = (if i == 0 then 0 else i.natAbs.log2 + 1) := by simp only [PyData.weight]
    simp only [PyData.weightAll, List.length_cons]
    rw [e2]
    omega
theorem Sml.show {ds : List PyData} (h : Sml ds) (hl : ds.length ≤ 20000) : showB (.tuple ds) = true ∧ showB (.list ds) = true := by
  obtain ⟨h1, h2, h3, h4, h5⟩ := h.facts
  have h6 := h.weight
  have w1 : PyData.weightAll ds ≤ 2 ^ 20 := by
    have : (2 : Nat) ^ 20 = 1048576 := by decide
    omega
  have go : ∀ d : PyData, d.canLay0 = PyData.canLayAll0 ds → d.depth = PyData.depthAll ds + 1 → d.weight = PyData.weightAll ds → d.showable = PyData.showableAll ds → d.hasDict = PyData.hasDictAll ds → d.intsShort 13 = PyData.intsShortAll 13 ds → showB d = true := fun d e1 e2 e3 e4 e5 e6 => by
    have lay : PyData.layable0 d = true := by
      show (d.canLay0 && decide (d.depth ≤ 64) && decide (d.weight ≤ 2 ^ 20)) = true
      rw [e1, h3, e2, e3, decide_eq_true (show PyData.depthAll ds + 1 ≤ 64 by omega), decide_eq_true w1]; rfl
    have len := shown_le13 lay (by rw [e6]; exact h5)
    have sz : d.shown.length ≤ sizeLine := Nat.le_trans len (by decide)
    show (d.showable && (!d.hasDict && ((d.canLay0 && decide (d.depth ≤ 64)) && decide (d.shown.length ≤ sizeLine)))) = true
    rw [e4, h1, e5, h2, e1, h3, e2, decide_eq_true (show PyData.depthAll ds + 1 ≤ 64 by omega), decide_eq_true sz]; rfl
  refine ⟨go _ ?_ ?_ ?_ ?_ ?_ ?_, go _ ?_ ?_ ?_ ?_ ?_ ?_⟩ <;> first | rfl | simp only [PyData.canLay0, PyData.depth, PyData.weight, PyData.showable, PyData.hasDict, PyData.intsShort]
/-! ### texts, alike or not -/
def dEqT : R2D := fun x y Q => match x, y with
  | .str a, .str b => Q (.bool (a == b))
  | _, _ => False
def dNeT : R2D := fun x y Q => match x, y with
  | .str a, .str b => Q (.bool (!(a == b)))
  | _, _ => False
theorem sr_eqT {K : Frag} : SR K rEq dEqT := fun as H cs v u x y Qd Q w hx hy h k => by
  cases hx with
  | str a =>
    cases hy with
    | str b => exact ⟨rfl, by rw [dec_str]; exact k _ H _ (Same.refl H) (.bl _) h⟩
    | _ => exact h.elim
  | _ => exact h.elim
theorem sr_neT {K : Frag} : SR K rNe dNeT := fun as H cs v u x y Qd Q w hx hy h k => by
  cases hx with
  | str a =>
    cases hy with
    | str b => exact ⟨rfl, by rw [dec_str]; exact k _ H _ (Same.refl H) (.bl _) h⟩
    | _ => exact h.elim
  | _ => exact h.elim
theorem eqT (a : Str) : (a == a) = true := by simp
theorem room100 {k : Nat} {A : Around} (r : Room k A) : A.units + 100 < cLine := by have := r.un; omega
/-- .. behind k new cells -/
theorem d_midk (k : Nat) {d1 rest : DS} {Dd : DN} {ρ : List Sl} {cs : CS} (Mid : List Sl → CS → Prop) (hB : ∀ Dd' : DN, Dd'.m = Dd.m → Dd'.rt = Dd.rt → (∀ ρ' cs', Mid ρ' cs' → Dd'.nx k ρ' cs') → d1 Dd' ρ cs) (hA : ∀ ρ' cs', Mid ρ' cs' → rest (Dd.push k) ρ' cs') : dSeq d1 rest Dd ρ cs := hB _ rfl rfl hA
section
variable {X : Cx} {E : XK}
/-! ### name = [..] on one line -/
theorem q_setLc {elt tg iter : Expr} {scope : Scope} {pos py spos : Pos} {di : DI} {de : DE} {x y : Str} (i j : Nat) (hc : X.calm = true) (hN : X.N.Nodup) (hi : QI X E tg iter di) (ok : BlkOk X.N X.env.scope scope [(x, j)])
    (hg : ∀ (s : Shared) (H : Hp) (C : Addr) (cl : List (Str × Addr)) (fp : List Addr), PG (X.blk s H scope (compEnvC scope cl C X.env) fp) tg (gName j))
    (he : ∀ (s : Shared) (H : Hp) (C : Addr) (cl : List (Str × Addr)) (fp : List Addr), QE (X.blk s H scope (compEnvC scope cl C X.env) fp) E0 elt de)
    (hy : X.N[i]? = some y := by rfl) (hyl : X.env.scope.names.lookup y = some .local := by rfl) (hsw : swapsWith (.ListComp elt [⟨tg, iter, [], 0⟩] scope pos) (some (.Name y py)) spos.line X.env = pure true := by exact sw_true rfl rfl rfl (by decide +kernel))
    (hs : ∀ x, foldedSetIterable iter X.env x = pure x := by intro _; rfl) : QS X E (.Assign [.Name y py] (.ListComp elt [⟨tg, iter, [], 0⟩] scope pos) spos) (dSet i (dOfN (dLc di j dYes de))) := by
  obtain ⟨wi, i1, i2⟩ := hi.ex
  refine ⟨_, ps_setLc (own := [(x, j)]) (g := gName j) (tt := tYes) (te := tOfE X.K E0 de) hc hN hy hyl hsw i1 ok hg (fun _ _ _ _ _ => pts_nil) (fun s H C cl fp => (he s H C cl fp).can) hs, fun as σ H ρ cs D Dd w ev ek h S => (lc_core' i2 st_yes' se_can) as σ H ρ cs Dd.ex _ _ w ev ek h fun p H1 ds cs1 e1 hp w1 h1 => ?_⟩
  obtain ⟨acc, cs2, xs, g0, g1, g2⟩ := w1.head
  cases g0
  exact S.nx [] _ H1 _ _ Nw.nil e1 (Wk.drop (ex := [cl p]) w1) (ev_set (s := .d (.list _)) (ev.ext e1) i ⟨_, rfl, .lst (by rw [hid_out (Wk.apart (ex := [cl p]) w1 (j := 0) (f := cl p) rfl)]; exact g1) (g2.mono hid_cons)⟩) h1
theorem q_setLcif {elt tg iter c : Expr} {scope : Scope} {pos py spos : Pos} {di : DI} {dt : DT} {de : DE} {x y : Str} (i j : Nat) (hc : X.calm = true) (hN : X.N.Nodup) (hi : QI X E tg iter di) (ok : BlkOk X.N X.env.scope scope [(x, j)])
    (hg : ∀ (s : Shared) (H : Hp) (C : Addr) (cl : List (Str × Addr)) (fp : List Addr), PG (X.blk s H scope (compEnvC scope cl C X.env) fp) tg (gName j))
    (ht : ∀ (s : Shared) (H : Hp) (C : Addr) (cl : List (Str × Addr)) (fp : List Addr), QT (X.blk s H scope (compEnvC scope cl C X.env) fp) E0 c dt)
    (he : ∀ (s : Shared) (H : Hp) (C : Addr) (cl : List (Str × Addr)) (fp : List Addr), QE (X.blk s H scope (compEnvC scope cl C X.env) fp) E0 elt de)
    (hy : X.N[i]? = some y := by rfl) (hyl : X.env.scope.names.lookup y = some .local := by rfl) (hsw : swapsWith (.ListComp elt [⟨tg, iter, [c], 0⟩] scope pos) (some (.Name y py)) spos.line X.env = pure true := by exact sw_true rfl rfl rfl (by decide +kernel))
    (hs : ∀ x, foldedSetIterable iter X.env x = pure x := by intro _; rfl) : QS X E (.Assign [.Name y py] (.ListComp elt [⟨tg, iter, [c], 0⟩] scope pos) spos) (dSet i (dOfN (dLc di j dt de))) := by
  obtain ⟨wi, i1, i2⟩ := hi.ex
  refine ⟨_, ps_setLc (own := [(x, j)]) (g := gName j) (tt := tOfT X.K E0 dt) (te := tOfE X.K E0 de) hc hN hy hyl hsw i1 ok hg (fun s H C cl fp => pts_one (ht s H C cl fp).can) (fun s H C cl fp => (he s H C cl fp).can) hs, fun as σ H ρ cs D Dd w ev ek h S => (lc_core' i2 st_can se_can) as σ H ρ cs Dd.ex _ _ w ev ek h fun p H1 ds cs1 e1 hp w1 h1 => ?_⟩
  obtain ⟨acc, cs2, xs, g0, g1, g2⟩ := w1.head
  cases g0
  exact S.nx [] _ H1 _ _ Nw.nil e1 (Wk.drop (ex := [cl p]) w1) (ev_set (s := .d (.list _)) (ev.ext e1) i ⟨_, rfl, .lst (by rw [hid_out (Wk.apart (ex := [cl p]) w1 (j := 0) (f := cl p) rfl)]; exact g1) (g2.mono hid_cons)⟩) h1
theorem q_newLc {elt tg iter : Expr} {scope : Scope} {pos py spos : Pos} {di : DI} {de : DE} {x y : Str} (i j : Nat) (hc : X.calm = true) (hN : X.N.Nodup) (hi : QI X E tg iter di) (ok : BlkOk X.N X.env.scope scope [(x, j)])
    (hg : ∀ (s : Shared) (H : Hp) (C : Addr) (cl : List (Str × Addr)) (fp : List Addr), PG (X.blk s H scope (compEnvC scope cl C X.env) fp) tg (gName j))
    (he : ∀ (s : Shared) (H : Hp) (C : Addr) (cl : List (Str × Addr)) (fp : List Addr), QE (X.blk s H scope (compEnvC scope cl C X.env) fp) E0 elt de)
    (hy : X.N[i]? = some y := by rfl) (hyl : X.env.scope.names.lookup y = some .local := by rfl) (hsw : swapsWith (.ListComp elt [⟨tg, iter, [], 0⟩] scope pos) (some (.Name y py)) spos.line X.env = pure true := by exact sw_true rfl rfl rfl (by decide +kernel))
    (hs : ∀ x, foldedSetIterable iter X.env x = pure x := by intro _; rfl) : QS X E (.Assign [.Name y py] (.ListComp elt [⟨tg, iter, [], 0⟩] scope pos) spos) (dNew i (dLc di j dYes de)) := by
  obtain ⟨wi, i1, i2⟩ := hi.ex
  refine ⟨_, ps_setLc (own := [(x, j)]) (g := gName j) (tt := tYes) (te := tOfE X.K E0 de) hc hN hy hyl hsw i1 ok hg (fun _ _ _ _ _ => pts_nil) (fun s H C cl fp => (he s H C cl fp).can) hs, fun as σ H ρ cs D Dd w ev ek h S => (lc_core' i2 st_yes' se_can) as σ H ρ cs Dd.ex _ _ w ev ek h fun p H1 ds cs1 e1 hp w1 h1 => ?_⟩
  have hf1 : ∀ {H' : Hp}, Nw H H' [cl p] := Nw.lst hp
  exact S.nx [cl p] _ H1 _ (ds :: cs1) hf1 e1 w1 (ev_set (s := .c 0) (Ev.sh hf1 ev e1) i ⟨p, rfl, rfl⟩) h1
theorem q_newLcif {elt tg iter c : Expr} {scope : Scope} {pos py spos : Pos} {di : DI} {dt : DT} {de : DE} {x y : Str} (i j : Nat) (hc : X.calm = true) (hN : X.N.Nodup) (hi : QI X E tg iter di) (ok : BlkOk X.N X.env.scope scope [(x, j)])
    (hg : ∀ (s : Shared) (H : Hp) (C : Addr) (cl : List (Str × Addr)) (fp : List Addr), PG (X.blk s H scope (compEnvC scope cl C X.env) fp) tg (gName j))
    (ht : ∀ (s : Shared) (H : Hp) (C : Addr) (cl : List (Str × Addr)) (fp : List Addr), QT (X.blk s H scope (compEnvC scope cl C X.env) fp) E0 c dt)
    (he : ∀ (s : Shared) (H : Hp) (C : Addr) (cl : List (Str × Addr)) (fp : List Addr), QE (X.blk s H scope (compEnvC scope cl C X.env) fp) E0 elt de)
    (hy : X.N[i]? = some y := by rfl) (hyl : X.env.scope.names.lookup y = some .local := by rfl) (hsw : swapsWith (.ListComp elt [⟨tg, iter, [c], 0⟩] scope pos) (some (.Name y py)) spos.line X.env = pure true := by exact sw_true rfl rfl rfl (by decide +kernel))
    (hs : ∀ x, foldedSetIterable iter X.env x = pure x := by intro _; rfl) : QS X E (.Assign [.Name y py] (.ListComp elt [⟨tg, iter, [c], 0⟩] scope pos) spos) (dNew i (dLc di j dt de)) := by
  obtain ⟨wi, i1, i2⟩ := hi.ex
  refine ⟨_, ps_setLc (own := [(x, j)]) (g := gName j) (tt := tOfT X.K E0 dt) (te := tOfE X.K E0 de) hc hN hy hyl hsw i1 ok hg (fun s H C cl fp => pts_one (ht s H C cl fp).can) (fun s H C cl fp => (he s H C cl fp).can) hs, fun as σ H ρ cs D Dd w ev ek h S => (lc_core' i2 st_can se_can) as σ H ρ cs Dd.ex _ _ w ev ek h fun p H1 ds cs1 e1 hp w1 h1 => ?_⟩
  have hf1 : ∀ {H' : Hp}, Nw H H' [cl p] := Nw.lst hp
  exact S.nx [cl p] _ H1 _ (ds :: cs1) hf1 e1 w1 (ev_set (s := .c 0) (Ev.sh hf1 ev e1) i ⟨p, rfl, rfl⟩) h1
end
end Kp

namespace Kp
open PySem PySem.Spec PyProof.Rows L2
section
variable {X : Cx} {E : XK} {K : Frag}
/-! ### isqrt, by its own name -/
def rIsq : List V → Hp → VK → Prop := fun xs H Q => ∃ i : Int, xs = [.int i] ∧ 0 ≤ i ∧ i < 2 ^ 64 ∧ Q (.int ((Float64.isqrt i.toNat : Nat) : Int)) H
theorem call_isq : CallR X (.builtin "math.isqrt") rIsq := by
  intro pins s σ H xs us Q I r h
  obtain ⟨i, rfl, h0, h1, q⟩ := h
  obtain ⟨u, rfl, t, rfl⟩ := vals1 r
  exact PySem.W.mg_isqrt h0 h1 ⟨.int _, H, I.tok _, ⟨_, rfl⟩, q⟩
def cIsq : RC := fun ds Q => match ds with
  | [.int i] => 0 ≤ i ∧ i < 2 ^ 64 ∧ Q (.int ((Float64.isqrt i.toNat : Nat) : Int))
  | _ => False
theorem sc_isq : SC K rIsq cIsq := fun as H cs vs ds Qd Q w d h k => by
  match ds, d with
  | [.int i], .cons (.int _) .nil => exact ⟨i, rfl, h.1, h.2.1, k _ H _ (Same.refl H) (.int _) h.2.2⟩
theorem q_isq {e : Expr} {p pos : Pos} {da : DA} (hm : X.mg "isqrt" = some (.builtin "math.isqrt")) (ha : QA X E [e] da) (hg : Gl X "isqrt" := by rfl) (hdb : (("isqrt" : Str) == ("__debug__" : Str)) = false := by decide)
    (he : starEach [e] X.env = (false, eval e X.env) :: starEach [] X.env := by rfl) (hpl : (backTo pos (starEach [] X.env)).any (·.1) = false := by rfl) : QE X E (.Call (.Name "isqrt" p) [e] [] pos) (dCB cIsq da) := by
  obtain ⟨ta, a1, a2⟩ := ha.ex
  refine ⟨_, ⟨fun pins s σ H Q I h => ?_⟩, se_cb sc_isq a2⟩
  refine wpAny_Call_Name_kw (ld_glob I hg hm ?_ hdb)
  exact PyProof.Rows.callWith_builtin1 (thn (a1.run pos pins s σ H _ I h) fun us s1 ⟨vs, H1, I1, r1, q1⟩ => call_isq pins s1 σ H1 vs us Q I1 r1 q1) he hpl
/-! ### a def with one keyword-only truth that has a default -/
structure CalK (P : Program) (w : World) (K : Frag) (mg : Str → Option Value) (base : Heap) (k : Nat) (name : Str) (ps : List Str) (n : Nat) (kw : Str) (b : Bool) (f : FD) : Prop where
  ex : ∃ (a : Addr) (fd : FuncData) (ds : List Value), mg name = some (.ref a) ∧ PySem.W.keepIn K (.ref a) = true ∧ FnOk P w K mg base (L2.CX P w) k a fd ps (spD K f) ∧ Vals [V.bl b] ds ∧ Binds K fd ps ds ∧ KBn K fd ps n [kw] (fun us ws => us ++ ws) (fun vs zs => vs ++ zs)
def dCallD (f : FD) (b : Bool) (da : DA) : DE := fun ρ cs Ed Q => da ρ cs Ed fun ss cs1 => f (ss ++ [.d (.bool b)]) cs1 Ed Q
theorem ar_bl {H : Hp} {as : List CA} (b : Bool) : Ar K H as [V.bl b] [.d (.bool b)] := .cons ⟨⟨_, rfl, .bl b⟩, fun z => by cases z⟩ .nil
theorem ar_app {H : Hp} {as : List CA} : ∀ {vs ws : List V} {ss zs : List Sl}, Ar K H as vs ss → Ar K H as ws zs → Ar K H as (vs ++ ws) (ss ++ zs)
  | _, _, _, _, .nil, h => h
  | _, _, _, _, .cons r t, h => .cons r (ar_app t h)
theorem q_callD {k n : Nat} {name kw : Str} {ps : List Str} {b : Bool} {f : FD} {e : Expr} {es : List Expr} {p pos : Pos} {da : DA} (F : CalK X.prog X.w X.K X.mg X.base k name ps n kw b f) (hr : Room k X.A) (hx : Passes (L2.CX X.prog X.w) X E) (ha : QA X E (e :: es) da)
    (hg : Gl X name := by rfl) (hdb : (name == ("__debug__" : Str)) = false := by decide) (he : starEach (e :: es) X.env = (false, eval e X.env) :: starEach es X.env := by rfl) (hpl : (backTo pos (starEach es X.env)).any (·.1) = false := by rfl) :
    QE X E (.Call (.Name name p) (e :: es) [] pos) (dCallD f b da) := by
  obtain ⟨a, fd, ds, h1, h2, h3, h4, h5, h6⟩ := F.ex
  obtain ⟨ta, a1, a2⟩ := ha.ex
  refine ⟨_, pe_call h3 hr hg h1 h2 h5 h4 hx a1 hdb he hpl, fun as σ H ρ cs Ed Qd Q w e ek h k => a2 as σ H ρ cs Ed _ _ w e ek h fun vs H1 ss cs1 e1 w1 d1 q1 => ?_⟩
  exact ⟨as, ss ++ [.d (.bool b)], cs1, Ed, Qd, w1, ar_app d1 (ar_bl b), ek.ext e1, q1, fun v H' x cs' e2 w2 d2 q2 => k v H' x cs' (e1.trans e2) w2 d2 q2⟩
end
section
variable {P : Program} {w : World} {K : Frag} {mg : Str → Option Value} {base : Heap} {name qual kw : Str} {params : Arguments} {body : List Stmt} {scope : Scope} {a : Addr} {fd : FuncData} {ps : List Str} {b : Bool}
/-- positional ones all written, the keyword too -/
theorem kb_all (F : FunD K name qual params body scope [] [(kw, .bl b)] a fd) (n : Nat)
    (h : ∀ (kV doc pm : Value) (an : Option Addr) (cdv ct : Value) (us ws : List Value), us.length = n → ws.length = 1 → bindArgs (PySem.W.fnOf name qual params body scope .none kV doc pm an cdv ct) ⟨us, [kw].zip ws⟩ = pure (ps.zip (us ++ ws))) : KBn K fd ps n [kw] (fun us ws => us ++ ws) (fun vs zs => vs ++ zs) := by
  obtain ⟨oc, od, dV, kV, doc, pm, an, cdv, ct, osl, rfl, lk, hcd, hD, hK⟩ := F.ex
  rcases hD with ⟨_, rfl⟩ | ⟨e, _⟩
  · exact ⟨fun s us ws _ l1 l2 => .of_eq (h kV doc pm an cdv ct us ws l1 l2), fun r1 r2 => r1.append r2⟩
  · exact absurd rfl e
end
end Kp

namespace Kp
open PySem PySem.Spec PyProof.Rows L2
/-! ### a head whose names may be built-ins of a module -/
section
variable {P : Program} {w : World} {K : Frag} {mg : Str → Option Value} {base : Heap} {name qual kw : Str} {params : Arguments} {body : List Stmt} {scope : Scope} {a : Addr} {fd : FuncData} {ps : List Str} {b : Bool} {k n : Nat} {f : FD}
theorem calK_of (F : FunD K name qual params body scope [] [(kw, .bl b)] a fd) (hm : mg name = some (.ref a)) (hf : FnOk P w K mg base (L2.CX P w) k a fd ps (spD K f)) (h0 : ∃ ds, Vals [V.bl b] ds ∧ Binds K fd ps ds) (hk : KBn K fd ps n [kw] (fun us ws => us ++ ws) (fun vs zs => vs ++ zs)) : CalK P w K mg base k name ps n kw b f := by
  obtain ⟨ds, h1, h2⟩ := h0
  exact ⟨a, fd, ds, hm, F.kp, hf, h1, h2, hk⟩
end
/-! ### the root, where it is small -/
theorem isq_small : ∀ n, n < 9802 → Float64.isqrt n * Float64.isqrt n ≤ n ∧ n < (Float64.isqrt n + 1) * (Float64.isqrt n + 1) := by
  have h : (List.range 9802).all (fun n => decide (Float64.isqrt n * Float64.isqrt n ≤ n) && decide (n < (Float64.isqrt n + 1) * (Float64.isqrt n + 1))) = true := by decide +kernel
  intro n hn
  have z := List.all_eq_true.mp h n (List.mem_range.mpr hn)
  obtain ⟨z1, z2⟩ := Bool.and_eq_true_iff.mp z
  exact ⟨of_decide_eq_true z1, of_decide_eq_true z2⟩
end Kp

namespace Kp
open PySem PySem.Spec PyProof.Rows L2
section
variable {X : Cx} {E : XK} {K : Frag}
/-- f(e, .., k = x), x a name of data -/
def dCallK (n : Nat) (f : FD) (i : Nat) (da : DA) : DE := fun ρ cs Ed Q => da ρ cs Ed fun ss cs1 => match ρ[i]? with
  | some (.d x) => ss.length = n ∧ f (ss ++ [.d x]) cs1 Ed Q
  | _ => False
theorem q_callK {k n : Nat} {name kw : Str} {ps : List Str} {b : Bool} {f : FD} {e v : Expr} {es : List Expr} {p pos kpos : Pos} {da : DA} (i : Nat) (hv : PE X v (tVar i)) (F : CalK X.prog X.w X.K X.mg X.base k name ps n kw b f) (hr : Room k X.A) (hx : Passes (L2.CX X.prog X.w) X E) (ha : QA X E (e :: es) da)
    (hg : Gl X name := by rfl) (hdb : (name == ("__debug__" : Str)) = false := by decide) (he : starEach (e :: es) X.env = (false, eval e X.env) :: starEach es X.env := by rfl)
    (hall : (backToKw pos (keywordEach [⟨some kw, v, kpos⟩] X.env)).all (·.1.isSome) = true := by rfl) (hks : (backToKw pos (keywordEach [⟨some kw, v, kpos⟩] X.env)).filterMap (·.1) = [kw] := by rfl)
    (hpl : ((backTo pos (starEach (e :: es) X.env)).any (·.1) || (backToKw pos (keywordEach [⟨some kw, v, kpos⟩] X.env)).any (·.1.isNone)) = false := by rfl) :
    QE X E (.Call (.Name name p) (e :: es) [⟨some kw, v, kpos⟩] pos) (dCallK n f i da) := by
  obtain ⟨a, fd, ds, h1, h2, h3, h4, h5, h6⟩ := F.ex
  obtain ⟨ta, a1, a2⟩ := ha.ex
  refine ⟨_, pe_callN h3 hr hg h1 h2 h6 hx a1 (pk_cons hv pk_nil) hall hks hdb he hpl, fun as σ H ρ cs Ed Qd Q w ev ek h k => a2 as σ H ρ cs Ed _ _ w ev ek h fun vs H1 ss cs1 e1 w1 d1 q1 => ?_⟩
  have ev1 := ev.ext e1
  cases q : ρ[i]? with
  | none => rw [q] at q1; exact q1.elim
  | some s =>
    rw [q] at q1
    cases s with
    | d x =>
      obtain ⟨hl, hf⟩ := q1
      obtain ⟨o, ho, u, rfl, hu⟩ := pr_get ev1 q
      refine ⟨u, ho, (pr_len d1).trans hl, rfl, ?_⟩
      exact ⟨as, ss ++ [.d x], cs1, Ed, Qd, w1, ar_app d1 (.cons (show SlOk X.K H1 as (some u) (.d x) ∧ Sl.d x ≠ .no from ⟨⟨u, rfl, hu⟩, fun z => by cases z⟩) .nil), ek.ext e1, hf, fun v' H' x' cs' e2 w2 d2 q2 => k v' H' x' cs' (e1.trans e2) w2 d2 q2⟩
    | _ => exact q1.elim
end
end Kp

namespace Kp
open PySem PySem.Spec PyProof.Rows L2
/-! ### what may be shown, built up -/
structure Shw (x : PyData) (dp wt : Nat) : Prop where
  s : x.showable = true
  n : x.hasDict = false
  c : x.canLay0 = true
  d : x.depth ≤ dp
  i : x.intsShort 13 = true
  w : x.weight ≤ wt
structure ShA (ds : List PyData) (dp wt : Nat) : Prop where
  s : PyData.showableAll ds = true
  n : PyData.hasDictAll ds = false
  c : PyData.canLayAll0 ds = true
  d : PyData.depthAll ds ≤ dp
  i : PyData.intsShortAll 13 ds = true
  w : PyData.weightAll ds ≤ wt
theorem Shw.none {dp w : Nat} : Shw .none dp w := ⟨rfl, rfl, rfl, Nat.zero_le _, rfl, Nat.zero_le _⟩
theorem Shw.bool {b : Bool} {dp w : Nat} : Shw (.bool b) dp w := ⟨rfl, rfl, rfl, Nat.zero_le _, rfl, Nat.zero_le _⟩
theorem Shw.int {i : Int} {dp : Nat} (h : i.natAbs < 10 ^ 12) : Shw (.int i) dp 40 := by
  have z := (Sml.cons h .nil).weight
  obtain ⟨h1, h2, h3, h4, h5⟩ := (Sml.cons h .nil).facts
  have e1 : PyData.showableAll [.int i] = (PyData.showable (.int i) && true) := by simp only [PyData.showableAll]
  have e5 : PyData.intsShortAll 13 [.int i] = (PyData.intsShort 13 (.int i) && true) := by simp only [PyData.intsShortAll]
  have ew : PyData.weightAll [.int i] = PyData.weight (.int i) + 1 + 0 := by simp only [PyData.weightAll]
  rw [e1, Bool.and_true] at h1
  rw [e5, Bool.and_true] at h5
  rw [ew] at z
  refine ⟨h1, rfl, rfl, Nat.zero_le _, h5, ?_⟩
  simp only [List.length_cons, List.length_nil] at z
  omega
theorem ShA.nil {dp w : Nat} : ShA [] dp w := ⟨rfl, rfl, rfl, Nat.zero_le _, rfl, Nat.zero_le _⟩
theorem ShA.cons {d : PyData} {ds : List PyData} {dp w1 w2 : Nat} (h : Shw d dp w1) (t : ShA ds dp w2) : ShA (d :: ds) dp (w1 + 1 + w2) := by
  have z1 := h.w
  have z2 := t.w
  refine ⟨?_, ?_, ?_, ?_, ?_, ?_⟩
  · simp only [PyData.showableAll, h.s, t.s]; rfl
  · simp only [PyData.hasDictAll, h.n, t.n]; rfl
  · simp only [PyData.canLayAll0, h.c, t.c]; rfl
  · show max (PyData.depth d) (PyData.depthAll ds) ≤ dp
    exact Nat.max_le.mpr ⟨h.d, t.d⟩
  · simp only [PyData.intsShortAll, h.i, t.i]; rfl
  · simp only [PyData.weightAll]; omega
theorem ShA.tuple {ds : List PyData} {dp w : Nat} (h : ShA ds dp w) : Shw (.tuple ds) (dp + 1) w := by
  have e : PyData.depth (.tuple ds) = PyData.depthAll ds + 1 := by simp only [PyData.depth]
  exact ⟨by simp only [PyData.showable, h.s], by simp only [PyData.hasDict, h.n], by simp only [PyData.canLay0, h.c], by rw [e]; have := h.d; omega, by simp only [PyData.intsShort, h.i], by simp only [PyData.weight]; exact h.w⟩
theorem Shw.show {d : PyData} {dp w : Nat} (h : Shw d dp w) (h1 : dp ≤ 64) (h2 : w ≤ 1048576) : showB d = true := by
  have z1 := h.d
  have z2 := h.w
  have w1 : d.weight ≤ 2 ^ 20 := by
    have : (2 : Nat) ^ 20 = 1048576 := by decide
    omega
  have lay : PyData.layable0 d = true := by
    show (d.canLay0 && decide (d.depth ≤ 64) && decide (d.weight ≤ 2 ^ 20)) = true
    rw [h.c, decide_eq_true (show d.depth ≤ 64 by omega), decide_eq_true w1]; rfl
  have sz : d.shown.length ≤ sizeLine := Nat.le_trans (shown_le13 lay h.i) (by decide)
  show (d.showable && (!d.hasDict && ((d.canLay0 && decide (d.depth ≤ 64)) && decide (d.shown.length ≤ sizeLine)))) = true
  rw [h.s, h.n, h.c, decide_eq_true (show d.depth ≤ 64 by omega), decide_eq_true sz]; rfl
end Kp

namespace Kp
open PySem PySem.Spec PyProof.Rows L2
section
variable {K : Frag} {E : XK} {X : Cx}
theorem qEqT {Q : PyData → CS → Prop} {a b : Str} {cs : CS} (e : a = b) (h : Q (.bool true) cs) : Q (.bool (a == b)) cs := by
  subst e
  rw [eqT]
  exact h
/-! ### a, b = e, a new list -/
def dPar2N (i j : Nat) (da : DE) (dl : DL) : DS := fun Dd ρ cs => da ρ cs Dd.ex fun x cs1 => dl ρ cs1 Dd.ex fun ds cs2 => Dd.nx 1 (((ρ.set i (.d x)).map (shSl 1)).set j (.c 0)) (ds :: cs2)
theorem q_par2N {i j : Nat} {x y : Str} {a b : Expr} {px py pt pos : Pos} {kt k2 : Nat} {pt2 : Pos} {da : DE} {dl : DL} (hc : X.calm = true) (hN : X.N.Nodup) (ha : QE X E a da) (hb : QN X E b dl) (hi : X.N[i]? = some x := by rfl) (hj : X.N[j]? = some y := by rfl) (hij : i ≠ j := by decide)
    (hx : X.env.scope.names.lookup x = some .local := by rfl) (hy : X.env.scope.names.lookup y = some .local := by rfl)
    (hs1 : starEach [a, b] X.env = (false, eval a X.env) :: starEach [b] X.env := by rfl) (hs2 : starEach [b] X.env = (false, eval b X.env) :: starEach [] X.env := by rfl)
    (hw : swappedStores [.Tuple [.Name x px, .Name y py] kt pt] (.Tuple [a, b] k2 pt2) X.env = pure (some [x, y]) := by rfl)
    (hs : swapsWithSole [.Tuple [.Name x px, .Name y py] kt pt] (.Tuple [a, b] k2 pt2) pos.line X.env = pure false := by rfl) :
    QS X E (.Assign [.Tuple [.Name x px, .Name y py] kt pt] (.Tuple [a, b] k2 pt2) pos) (dPar2N i j da dl) := by
  obtain ⟨ta, a1, a2⟩ := ha.ex
  obtain ⟨tb, b1, b2⟩ := hb.ex
  refine ⟨_, ps_par hc hN hi hj hij hx hy (pa_cons a1 (pa_cons b1 pa_nil hs2) hs1) hw hs, fun as σ H ρ cs D Dd w ev ek h S => a2 as σ H ρ cs Dd.ex _ _ w ev ek h fun v H1 x cs1 e1 w1 d1 h1 => b2 as σ H1 ρ cs1 Dd.ex _ _ w1 (ev.ext e1) (ek.ext e1) h1 fun p H2 ds cs2 e2 hp w2 h2 => ?_⟩
  have hf1 : ∀ {H' : Hp}, Nw H1 H' [cl p] := Nw.lst hp
  have hf0 : ∀ {H' : Hp}, Nw H H' [cl p] := hf1.back e1
  have ev1 : Ev X.K H1 as (σ.set i (some v)) (ρ.set i (.d x)) := ev_set (s := .d x) (ev.ext e1) i ⟨v, rfl, d1⟩
  exact ⟨_, _, rfl, S.nx [cl p] _ H2 _ (ds :: cs2) hf0 (e1.trans e2) w2 (ev_set (s := .c 0) (Ev.sh hf1 ev1 e2) j ⟨p, rfl, rfl⟩) h2⟩
/-- .. where one of the names is seen from within -/
theorem q_unp2N {i j : Nat} {es : List Expr} {a b : Expr} {pos p2 : Pos} {k k2 : Nat} {pt2 : Pos} {da : DE} {dl : DL} (hc : X.calm = true) (hg : PGs X es (gNames [i, j])) (ha : QE X E a da) (hb : QN X E b dl)
    (hs1 : starEach [a, b] X.env = (false, eval a X.env) :: starEach [b] X.env := by rfl) (hs2 : starEach [b] X.env = (false, eval b X.env) :: starEach [] X.env := by rfl)
    (hn : (assignEach es X.env).length = 2 := by rfl) (hst : (assignEach es X.env).findIdx? (·.1) = none := by rfl)
    (hs : swapsWithSole [.Tuple es k p2] (.Tuple [a, b] k2 pt2) pos.line X.env = pure false := by rfl) (hw : swappedStores [.Tuple es k p2] (.Tuple [a, b] k2 pt2) X.env = pure none := by rfl)
    (h1 : (assignEach [.Tuple es k p2] X.env).map (·.2) = [assign (.Tuple es k p2) X.env] := by rfl) :
    QS X E (.Assign [.Tuple es k p2] (.Tuple [a, b] k2 pt2) pos) (dPar2N i j da dl) := by
  obtain ⟨ta, a1, a2⟩ := ha.ex
  obtain ⟨tb, b1, b2⟩ := hb.ex
  refine ⟨_, ps_asg (pe_tup (pa_cons a1 (pa_cons b1 pa_nil hs2) hs1)) (pg_tup hc hg hn hst) hs hw h1, fun as σ H ρ cs D Dd w ev ek h S => a2 as σ H ρ cs Dd.ex _ _ w ev ek h fun v H1 x cs1 e1 w1 d1 h1 => b2 as σ H1 ρ cs1 Dd.ex _ _ w1 (ev.ext e1) (ek.ext e1) h1 fun p H2 ds cs2 e2 hp w2 h2 => ?_⟩
  refine ⟨(show 2 ≤ sizeLine by decide), fun q hq => ?_⟩
  have hf1 : ∀ {H' : Hp}, Nw H1 H' [cl p] := Nw.lst hp
  have hf0 : ∀ {H' : Hp}, Nw H H' [cl p] := hf1.back e1
  have e3 := e2.trans (Ext.of (as := as) (Same.new (o := .tup [v, .ref p]) hq))
  have ev1 : Ev X.K H1 as (σ.set i (some v)) (ρ.set i (.d x)) := ev_set (s := .d x) (ev.ext e1) i ⟨v, rfl, d1⟩
  exact ⟨_, _, rfl, SqT.of upd_same, rfl, ⟨_, _, rfl, ⟨_, _, rfl, ⟨rfl, S.nx [cl p] _ _ _ (ds :: cs2) hf0 (e1.trans e3) (w2.grow (Same.new hq)) (ev_set (s := .c 0) (Ev.sh hf1 ev1 e3) j ⟨p, rfl, rfl⟩) h2⟩⟩⟩⟩
/-! ### cells as data, for an expression that changes none -/
theorem Ext.nil {H H' : Hp} (e : Ext [] H H') : Same H H' := fun b o h => e.sm b o .nil h
theorem Ev.frz {H : Hp} {as : List CA} {cs : CS} {σ : L2.St} {ρ : List Sl} (w : Wk K H as cs) (e : Ev K H as σ ρ) : Ev K H [] σ (ρ.map (disSl cs.length cs)) := by
  have w' : Wk K H (as ++ []) cs := by rw [List.append_nil]; exact w
  have e' : Ev K H (as ++ []) σ ρ := by rw [List.append_nil]; exact e
  have q := Ev.diss w' e'
  rw [pr_len w.cel] at q
  exact q
theorem ek_frz {H : Hp} {as : List CA} {cs : CS} {Ed : XD} (h : EK K E Ed as H) (w : Wk K H as cs) : EK K E (fun C _ => Ed C cs) [] H := fun C H' cs' e w' q => h C H' cs (Ext.of e.nil) (w.grow e.nil) q
def dFrzT (dt : DT) : DT := fun ρ cs Ed Q => dt (ρ.map (disSl cs.length cs)) [] (fun C _ => Ed C cs) fun b _ => Q b cs
theorem q_frzT {e : Expr} {dt : DT} (h : QT X E e dt) : QT X E e (dFrzT dt) := by
  obtain ⟨t, a1, a2⟩ := h.ex
  exact ⟨_, a1, fun as σ H ρ cs Ed Qd Q w ev ek h k => a2 [] σ H _ [] _ _ _ Wk.nil (ev.frz w) (ek_frz ek w) h fun b H' cs' e w' q => k b H' cs (Ext.of e.nil) (w.grow e.nil) q⟩
mutual
def noL : PyData → Bool
  | .none => true
  | .bool _ => true
  | .int _ => true
  | .str _ => true
  | .tuple ds => noLs ds
  | _ => false
def noLs : List PyData → Bool
  | [] => true
  | d :: r => noL d && noLs r
end
mutual
theorem Dq.free {H : Hp} {as : List CA} (hl : Lv H as ∧ ∀ a : Addr, a ∈ hdl H as → ∃ o, H a = some o ∧ ((∃ xs, o = .lst xs) ∨ (∃ ks, o = .dK ks) ∨ (∃ C dx fs, o = .ins C dx fs) ∨ ∃ ps, o = .tbl ps)) : ∀ {v : V} {x : PyData}, Dq K H v x → noL x = true → Dq K (hid H as) v x
  | _, _, .non, _ => .non
  | _, _, .bl b, _ => .bl b
  | _, _, .int i, _ => .int i
  | _, _, .str i, _ => .str i
  | _, _, .lst _ _, h => by simp [noL] at h
  | _, _, .emp _, h => by simp [noL] at h
  | _, _, .tup (a := a) h t, q => .tup (by
      rcases h with (h | ⟨o, h⟩) | h
      · refine .inl (.inl ?_)
        rw [hid_out ⟨hl.1, fun z => by obtain ⟨o', e, q1⟩ := hl.2 a z; rw [e] at h; rcases q1 with ⟨_, rfl⟩ | ⟨_, rfl⟩ | ⟨_, _, _, rfl⟩ | ⟨_, rfl⟩ <;> cases h⟩]
        exact h
      · refine .inl (.inr ⟨o, ?_⟩)
        rw [hid_out ⟨hl.1, fun z => by obtain ⟨o', e, q1⟩ := hl.2 a z; rw [e] at h; rcases q1 with ⟨_, rfl⟩ | ⟨_, rfl⟩ | ⟨_, _, _, rfl⟩ | ⟨_, rfl⟩ <;> cases h⟩]
        exact h
      · exact .inr h) (DqAll.free hl t (by simp only [noL] at q; exact q))
theorem DqAll.free {H : Hp} {as : List CA} (hl : Lv H as ∧ ∀ a : Addr, a ∈ hdl H as → ∃ o, H a = some o ∧ ((∃ xs, o = .lst xs) ∨ (∃ ks, o = .dK ks) ∨ (∃ C dx fs, o = .ins C dx fs) ∨ ∃ ps, o = .tbl ps)) : ∀ {vs : List V} {ds : List PyData}, DqAll K H vs ds → noLs ds = true → DqAll K (hid H as) vs ds
  | _, _, .nil, _ => .nil
  | _, _, .cons h t, q => by
    simp only [noLs, Bool.and_eq_true] at q
    exact .cons (Dq.free hl h q.1) (DqAll.free hl t q.2)
end
theorem FldAll.refs {H : Hp} {as : List CA} : ∀ {ns : List (Str × Bool)} {vs : List V} {ds : List PyData}, FldAll K H as ns vs ds → ∀ b ∈ refsOf ns (fz ns vs), ∃ xs, H b = some (.lst xs)
  | ns, [], _, _, b, hb => by
    have e : fz ns [] = [] := by unfold fz; simp
    rw [e] at hb
    cases ns with
    | nil => cases hb
    | cons n ns => obtain ⟨x, t⟩ := n; cases t <;> cases hb
  | (x, t) :: ns, v :: vs, d :: ds, .cons h r, b, hb => by
    have hb' : b ∈ refsOf ((x, t) :: ns) ((x, v) :: fz ns vs) := hb
    cases t with
    | false => exact FldAll.refs r b hb'
    | true =>
      obtain ⟨l, xs, es, rfl, h2, h3, h4⟩ := h
      rcases List.mem_cons.mp hb' with z | z
      · subst z; exact ⟨_, h3⟩
      · exact FldAll.refs r b z
theorem Wk.lists {H : Hp} {as : List CA} {cs : CS} (w : Wk K H as cs) : Lv H as ∧ ∀ a : Addr, a ∈ hdl H as → ∃ o, H a = some o ∧ ((∃ xs, o = .lst xs) ∨ (∃ ks, o = .dK ks) ∨ (∃ C dx fs, o = .ins C dx fs) ∨ ∃ ps, o = .tbl ps) := ⟨w.lv, fun a h => by
  obtain ⟨i, ⟨b, kd⟩, hi, hb⟩ := mem_hdl.mp h
  obtain ⟨ds, _, c⟩ := pr_get' w.cel hi
  cases kd with
  | lst =>
    have hb' : a ∈ [b] := hb
    rw [List.mem_singleton.mp hb']
    obtain ⟨xs, e, _⟩ := c; exact ⟨_, e, .inl ⟨_, rfl⟩⟩
  | dic keys =>
    have hb' : a ∈ [b] := hb
    rw [List.mem_singleton.mp hb']
    obtain ⟨xs, e, _⟩ := c; exact ⟨_, e, .inr (.inl ⟨_, rfl⟩)⟩
  | tab nm q =>
    have hb' : a ∈ [b] := hb
    rw [List.mem_singleton.mp hb']
    obtain ⟨_, _, ps, e, _⟩ := c; exact ⟨_, e, .inr (.inr (.inr ⟨_, rfl⟩))⟩
  | obj cc =>
    obtain ⟨dx, vs, e, f⟩ := c
    rcases List.mem_cons.mp hb with z | z
    · rw [z]; exact ⟨_, e, .inr (.inr (.inl ⟨_, _, _, rfl⟩))⟩
    · rw [own_at e] at z
      obtain ⟨xs, q⟩ := f.refs a z
      exact ⟨_, q, .inl ⟨_, rfl⟩⟩⟩
def dFrz (de : DE) : DE := fun ρ cs Ed Q => de (ρ.map (disSl cs.length cs)) [] (fun C _ => Ed C cs) fun x _ => noL x = true ∧ Q x cs
theorem q_frz {e : Expr} {de : DE} (h : QE X E e de) : QE X E e (dFrz de) := by
  obtain ⟨t, a1, a2⟩ := h.ex
  refine ⟨_, a1, fun as σ H ρ cs Ed Qd Q w ev ek h k => a2 [] σ H _ [] _ _ _ Wk.nil (ev.frz w) (ek_frz ek w) h fun v H' x cs' e w' d q => ?_⟩
  rw [hid_nil] at d
  exact k v H' x cs (Ext.of e.nil) (w.grow e.nil) (d.free (w.grow e.nil).lists q.1) q.2
theorem noLs_ints : ∀ ns : List Int, noLs (ns.map .int) = true
  | [] => rfl
  | _ :: r => by simp only [List.map_cons, noLs, noL, noLs_ints r, Bool.and_self]
theorem AllI.noL {lo hi : Int} : ∀ {ds : List PyData}, AllI lo hi ds → noLs ds = true
  | _, .nil => rfl
  | _, .cons _ _ t => by simp only [noLs, Kp.noL, AllI.noL t, Bool.and_self]
end
end Kp

namespace Kp
open PySem PySem.Spec PyProof.Rows L2
section
variable {K : Frag} {E : XK} {X : Cx}
/-! ### x.extend(a list) -/
def dExt (i : Nat) (dv : DE) : DS := fun Dd ρ cs => match ρ[i]? with
  | some (.c j) => (cs[j]?).isSome = true ∧ dv ρ cs Dd.ex fun x cs1 => match x with
    | .list es => ∃ ds, cs1[j]? = some ds ∧ ds.length + es.length ≤ sizeLine ∧ Dd.nx 0 ρ (cs1.set j (ds ++ es))
    | _ => False
  | _ => False
theorem q_ext {o e : Expr} {pos apos cpos : Pos} {dv : DE} (i : Nat) (ho : PE X o (tVar i)) (hv : QE X E e dv)
    (hs0 : swapsWith (.Call (.Attribute o "extend" apos) [e] [] cpos) none pos.line X.env = pure false := by rfl)
    (hbase : attributeBase o "extend" X.env (eval o X.env) = eval o X.env := by rfl)
    (hfew : ((backTo cpos (starEach [e] X.env)).all (fun x => !x.1) && (backToKw cpos (keywordEach [] X.env)).all (fun x => x.1.isSome)
      && decide (([e] : List Expr).length + ([] : List Keyword).length + (if ([] : List Keyword).isEmpty then 0 else 1) < 30)) = true := by rfl)
    (hline : (apos.endLine == cpos.line) = true := by rfl) (hs : starEach [e] X.env = (false, eval e X.env) :: starEach [] X.env := by rfl) (hplain : (backTo cpos (starEach [] X.env)).any (·.1) = false := by rfl) :
    QS X E (.Expr (.Call (.Attribute o "extend" apos) [e] [] cpos) pos) (dExt i dv) := by
  obtain ⟨tv, v1, v2⟩ := hv.ex
  refine ⟨_, ps_expr (pe_bm PySem.F.plainAttrs_list PySem.F.slot_list_extend PySem.F.type_list_extend mt_extend ho (pa_cons v1 pa_nil hs) hbase hfew hline hs hplain) hs0, fun as σ H ρ cs D Dd w ev ek h S => ?_⟩
  unfold dExt at h
  cases q : ρ[i]? with
  | none => rw [q] at h; exact h.elim
  | some s =>
    rw [q] at h
    obtain ⟨o, hoo, hss⟩ := pr_get ev q
    cases s with
    | c j =>
      obtain ⟨a, g1, rfl⟩ := hss
      obtain ⟨h0, h⟩ := h
      obtain ⟨ds0, hd0⟩ := Option.isSome_iff_exists.mp h0
      obtain ⟨xs0, g00, _⟩ := w.lst g1 hd0
      refine ⟨_, hoo, .inl ⟨rfl, xs0, SqL.of g00⟩, v2 as σ H ρ cs Dd.ex _ _ w ev ek h fun v H1 x cs1 e1 w1 d1 h1 => ?_⟩
      cases d1 <;> try exact h1.elim
      rename_i b zs es gb gz
      obtain ⟨ds, g2, g3, g4⟩ := h1
      obtain ⟨xs, g6, g7⟩ := w1.lst g1 g2
      have ha : a ∈ as := mem_at g1
      exact ⟨a, b, xs, zs, rfl, rfl, g6, hid1 gb, by rw [g7.len, gz.len]; exact g3, S.nx [] σ _ ρ _ Nw.nil (e1.trans (ext_upd w1 g1)) (w1.put g1 (g7.app gz)) ((ev.ext e1).ext (ext_upd w1 g1)) g4⟩
    | _ => exact h.elim
/-! ### f(e, .., k = an expression) -/
def dCallKe (n : Nat) (f : FD) (da : DA) (dv : DE) : DE := fun ρ cs Ed Q => da ρ cs Ed fun ss cs1 => dv ρ cs1 Ed fun x cs2 => ss.length = n ∧ f (ss ++ [.d x]) cs2 Ed Q
theorem q_callKe {k n : Nat} {name kw : Str} {ps : List Str} {b : Bool} {f : FD} {e v : Expr} {es : List Expr} {p pos kpos : Pos} {da : DA} {dv : DE} (hv : QE X E v dv) (F : CalK X.prog X.w X.K X.mg X.base k name ps n kw b f) (hr : Room k X.A) (hx : Passes (L2.CX X.prog X.w) X E) (ha : QA X E (e :: es) da)
    (hg : Gl X name := by rfl) (hdb : (name == ("__debug__" : Str)) = false := by decide) (he : starEach (e :: es) X.env = (false, eval e X.env) :: starEach es X.env := by rfl)
    (hall : (backToKw pos (keywordEach [⟨some kw, v, kpos⟩] X.env)).all (·.1.isSome) = true := by rfl) (hks : (backToKw pos (keywordEach [⟨some kw, v, kpos⟩] X.env)).filterMap (·.1) = [kw] := by rfl)
    (hpl : ((backTo pos (starEach (e :: es) X.env)).any (·.1) || (backToKw pos (keywordEach [⟨some kw, v, kpos⟩] X.env)).any (·.1.isNone)) = false := by rfl) :
    QE X E (.Call (.Name name p) (e :: es) [⟨some kw, v, kpos⟩] pos) (dCallKe n f da dv) := by
  obtain ⟨a, fd, ds, h1, h2, h3, h4, h5, h6⟩ := F.ex
  obtain ⟨ta, a1, a2⟩ := ha.ex
  obtain ⟨tv, v1, v2⟩ := hv.ex
  refine ⟨_, pe_callN h3 hr hg h1 h2 h6 hx a1 (pk_cons v1 pk_nil) hall hks hdb he hpl, fun as σ H ρ cs Ed Qd Q w ev ek h k => a2 as σ H ρ cs Ed _ _ w ev ek h fun vs H1 ss cs1 e1 w1 d1 q1 => v2 as σ H1 ρ cs1 Ed _ _ w1 (ev.ext e1) (ek.ext e1) q1 fun u H2 x cs2 e2 w2 d2 q2 => ?_⟩
  obtain ⟨hl, hf⟩ := q2
  refine ⟨(pr_len d1).trans hl, rfl, ?_⟩
  exact ⟨as, ss ++ [.d x], cs2, Ed, Qd, w2, ar_app (d1.ext e2) (.cons (show SlOk X.K H2 as (some u) (.d x) ∧ Sl.d x ≠ .no from ⟨⟨u, rfl, d2⟩, fun z => by cases z⟩) .nil), (ek.ext e1).ext e2, hf, fun v' H' x' cs' e3 w3 d3 q3 => k v' H' x' cs' ((e1.trans e2).trans e3) w3 d3 q3⟩
end
end Kp

namespace Kp
open PySem PySem.Spec PyProof.Rows L2
section
variable {K : Frag} {E : XK} {X : Cx}
/-! ### all -/
def cAll : RC := fun ds Q => match ds with
  | [.list xs] => ∃ bs : List Bool, xs = bs.map .bool ∧ Q (.bool (bs.all id))
  | _ => False
theorem dq_bools {H : Hp} : ∀ {vs : List V} (bs : List Bool), DqAll K H vs (bs.map .bool) → vs = bs.map V.bl
  | [], [], _ => rfl
  | _, b :: bs, h => by
    cases h with
    | cons h t =>
      cases h
      rw [dq_bools bs t]; rfl
theorem sc_all : SC K (rAll K) cAll := fun as H cs vs ds Qd Q w d h k => by
  match ds, d with
  | [.list xs], .cons (.lst h1 h2) .nil =>
    obtain ⟨bs, rfl, h3⟩ := h
    have e := dq_bools bs h2
    subst e
    exact ⟨_, bs, rfl, SqL.of (hid1 h1), k _ H _ (Same.refl H) (.bl _) h3⟩
/-! ### a text in a row of texts -/
def dInS (neg : Bool) : R2D := fun x y Q => match x, y with
  | .str s, .tuple ds => ∃ ss : List Str, ds = ss.map .str ∧ Q (.bool (if neg then !(ss.any (· == s)) else ss.any (· == s)))
  | _, _ => False
theorem dq_strs {H : Hp} : ∀ {vs : List V} (bs : List Str), DqAll K H vs (bs.map .str) → vs = bs.map V.str
  | [], [], _ => rfl
  | _, b :: bs, h => by
    cases h with
    | cons h t =>
      cases h
      rw [dq_strs bs t]; rfl
theorem flat_strs : ∀ ss : List Str, (ss.map V.str).all flatV = true
  | [] => rfl
  | _ :: r => by simp only [List.map_cons, List.all_cons, flat_strs r]; rfl
theorem in_strs (s : Str) : ∀ ss : List Str, inV (.str s) (ss.map V.str) = ss.any (· == s)
  | [] => rfl
  | a :: r => by
    have h := in_strs s r
    unfold inV at h ⊢
    simp only [List.map_cons, List.any_cons, h]
    rfl
theorem sr_inS (neg : Bool) : SR K (rIn K neg) (dInS neg) := fun as H cs v u x y Qd Q w hx hy h k => by
  cases hx <;> try exact h.elim
  cases hy <;> try exact h.elim
  rename_i s a xs ds g1 g2
  obtain ⟨ss, rfl, h3⟩ := h
  have e := dq_strs ss g2
  subst e
  refine ⟨a, _, rfl, .inr (hidT g1), rfl, flat_strs ss, ?_⟩
  rw [in_strs]
  exact k _ H _ (Same.refl H) (.bl _) h3
/-! ### (*e, x, ..) -/
def dTupS (da : DE) (dr : DA) : DE := fun ρ cs Ed Q => da ρ cs Ed fun x cs1 => match x with
  | .tuple ds => dr ρ cs1 Ed fun ss cs2 => match allD ss with
    | some es => ds.length + es.length ≤ sizeLine ∧ Q (.tuple (ds ++ es)) cs2
    | none => False
  | _ => False
theorem q_tupS {e : Expr} {es : List Expr} {x1 : Nat} {p pos : Pos} {da : DE} {dr : DA} (ha : QE X E e da) (hr : QA X E es dr) (hs : starEach (.Starred e p :: es) X.env = (true, eval e X.env) :: starEach es X.env := by rfl) : QE X E (.Tuple (.Starred e p :: es) x1 pos) (dTupS da dr) := by
  obtain ⟨ta, a1, a2⟩ := ha.ex
  obtain ⟨tr, b1, b2⟩ := hr.ex
  refine ⟨_, pe_tup (StX.pa_star a1 b1 hs), fun as σ H ρ cs Ed Qd Q w ev ek h k => a2 as σ H ρ cs Ed _ _ w ev ek h fun v H1 x cs1 e1 w1 d1 h1 => ?_⟩
  cases d1 <;> try exact h1.elim
  rename_i a xs ds g1 g2
  refine ⟨_, _, rfl, .inl (hidT g1), b2 as σ H1 ρ cs1 Ed _ _ w1 (ev.ext e1) (ek.ext e1) h1 fun vs H2 ss cs2 e2 w2 d2 h2 => ?_⟩
  cases q : allD ss with
  | none => rw [q] at h2; exact h2.elim
  | some es =>
    rw [q] at h2
    have d3 := allD_ok d2 q
    have d4 : DqAll X.K (hid H2 as) xs ds := g2.mono e2.hid
    refine ⟨by rw [List.length_append, d4.len, d3.len]; exact h2.1, fun p hp => ?_⟩
    exact k _ _ _ cs2 ((e1.trans e2).trans (Ext.of (Same.new hp))) (w2.grow (Same.new hp)) (.tup (SqT.of (hid_new (w2.fresh hp))) ((d4.app d3).mono (new_mono hp))) h2.2
/-! ### x.pop(0), x a cell -/
def dPop0 (i : Nat) : DE := fun ρ cs Ed Q => match ρ[i]? with
  | some (.c j) => ∃ d ds, cs[j]? = some (d :: ds) ∧ Q d (cs.set j ds)
  | _ => False
theorem q_pop0 {o : Expr} {apos cpos p0 : Pos} {j0 : Nat} (i : Nat) (ho : PE X o (tVar i))
    (hbase : attributeBase o "pop" X.env (eval o X.env) = eval o X.env := by rfl)
    (hfew : ((backTo cpos (starEach [.Constant (.int 0) j0 p0] X.env)).all (fun x => !x.1) && (backToKw cpos (keywordEach [] X.env)).all (fun x => x.1.isSome)
      && decide (([.Constant (.int 0) j0 p0] : List Expr).length + ([] : List Keyword).length + (if ([] : List Keyword).isEmpty then 0 else 1) < 30)) = true := by rfl)
    (hline : (apos.endLine == cpos.line) = true := by rfl) (hs : starEach [.Constant (.int 0) j0 p0] X.env = (false, eval (.Constant (.int 0) j0 p0) X.env) :: starEach [] X.env := by rfl) (hplain : (backTo cpos (starEach [] X.env)).any (·.1) = false := by rfl) :
    QE X E (.Call (.Attribute o "pop" apos) [.Constant (.int 0) j0 p0] [] cpos) (dPop0 i) := by
  refine ⟨_, pe_bm PySem.F.plainAttrs_list PySem.F.slot_list_pop PySem.F.type_list_pop mt_popAt ho (pa_cons pe_int pa_nil hs) hbase hfew hline hs hplain, fun as σ H ρ cs Ed Qd Q w ev ek h k => ?_⟩
  unfold dPop0 at h
  cases q : ρ[i]? with
  | none => rw [q] at h; exact h.elim
  | some s =>
    rw [q] at h
    obtain ⟨o, hoo, hss⟩ := pr_get ev q
    cases s with
    | c j =>
      obtain ⟨a, g1, rfl⟩ := hss
      obtain ⟨d, ds, g2, g4⟩ := h
      obtain ⟨xs, g6, g7⟩ := w.lst g1 g2
      have ha : a ∈ as := mem_at g1
      cases g7 with
      | cons r t =>
        rename_i v vs
        refine ⟨_, hoo, .inl ⟨rfl, _, SqL.of g6⟩, a, _, 0, 0, v, rfl, rfl, g6, by decide, by decide, ?_, rfl, ?_⟩
        · exact seqIndex_of (by decide) (by simp only [List.length_cons]; omega)
        · exact k v _ d _ (ext_upd w g1) (w.put g1 t) (by rw [hid_upd w g1]; exact r) g4
    | _ => exact h.elim
/-! ### sorted(e, reverse=True), of ints -/
def dSrtR (da : DE) : DE := fun ρ cs Ed Q => da ρ cs Ed fun x cs1 => match x with
  | .list ds => ∃ ns : List Int, ds = ns.map .int ∧ ∀ ns' : List Int, ns'.Perm ns → ns'.Pairwise (· ≥ ·) → Q (.list (ns'.map .int)) cs1
  | _ => False
theorem dq_ints' {H : Hp} : ∀ {vs : List V} (bs : List Int), DqAll K H vs (bs.map .int) → vs = bs.map V.int
  | [], [], _ => rfl
  | _, b :: bs, h => by
    cases h with
    | cons h t =>
      cases h
      rw [dq_ints' bs t]; rfl
theorem q_srtR {e : Expr} {p pos kp vp : Pos} {j0 : Nat} {da : DE} (ha : QE X E e da) (hm : X.mg "sorted" = none) (hg : Gl X "sorted" := by rfl)
    (he0 : starEach [e] X.env = (false, eval e X.env) :: starEach [] X.env := by rfl)
    (he : backTo pos (starEach [e] X.env) = (false, eval e X.env) :: backTo pos (starEach [] X.env) := by rfl) (hpl : (backTo pos (starEach [e] X.env)).any (·.1) = false := by rfl)
    (hall : (backToKw pos (keywordEach [⟨some "reverse", .Constant (.bool true) j0 vp, kp⟩] X.env)).all (·.1.isSome) = true := by rfl) (hnone : (backToKw pos (keywordEach [⟨some "reverse", .Constant (.bool true) j0 vp, kp⟩] X.env)).any (·.1.isNone) = false := by rfl)
    (hks : (backToKw pos (keywordEach [⟨some "reverse", .Constant (.bool true) j0 vp, kp⟩] X.env)).filterMap (·.1) = [Str.ofString "reverse"] := by rfl) :
    QE X E (.Call (.Name "sorted" p) [e] [⟨some "reverse", .Constant (.bool true) j0 vp, kp⟩] pos) (dSrtR da) := by
  obtain ⟨ta, a1, a2⟩ := ha.ex
  refine ⟨_, pe_callBK (cr_sortedRev (b := true)) hg hm (by decide +kernel) (pa_cons a1 pa_nil he0) (pk_cons pe_bl pk_nil) (he := he) (hpl := hpl) (hall := hall) (hnone := hnone) (hks := hks), fun as σ H ρ cs Ed Qd Q w ev ek h k => a2 as σ H ρ cs Ed _ _ w ev ek h fun v H1 x cs1 e1 w1 d1 h1 => ?_⟩
  cases d1 <;> try exact h1.elim
  rename_i a xs ds g1 g2
  obtain ⟨ns, rfl, h2⟩ := h1
  have ee := dq_ints' ns g2
  subst ee
  refine ⟨a, ns, rfl, rfl, SqL.of (hid1 g1), fun ns' p hp ho hf => ?_⟩
  exact k _ _ _ cs1 (e1.trans (Ext.of (Same.new hf))) (w1.grow (Same.new hf)) (.lst (hid_new (w1.fresh hf)) (dq_ints ns')) (h2 ns' hp ho)
/-! ### for i, x in enumerate(e) -/
def dForE (da : DE) (is : List Nat) (body : DS) : DS := fun Dd ρ cs => da ρ cs Dd.ex fun x cs1 => match x with
  | .list ds => dLp ds.length (fun t => .tuple [.int t, nth ds t]) (putT is) body Dd ρ cs1
  | _ => False
theorem q_forE {elts : List Expr} {kk : Nat} {tpos : Pos} {e : Expr} {body : List Stmt} {p p2 pos : Pos} {da : DE} {is : List Nat} {db : DS} (hp : PassesOwn (model X.prog X.w) X.A X.env X.xe) (hc : X.calm = true) (hm : X.mg "enumerate" = none) (ha : QE X E e da) (hg : QG X (.Tuple elts kk tpos) (putT is)) (hb : QSs X E body db)
    (hgl : Gl X "enumerate" := by rfl) (he0 : starEach [e] X.env = (false, eval e X.env) :: starEach [] X.env := by rfl) (hs : starEach [e] X.env = [(false, eval e X.env)] := by rfl) (hs2 : ∀ x, foldedSetIterable (.Call (.Name "enumerate" p) [e] [] p2) X.env x = pure x := by intro _; rfl) :
    QS X E (.For (.Tuple elts kk tpos) (.Call (.Name "enumerate" p) [e] [] p2) body [] pos) (dForE da is db) := by
  obtain ⟨ta, a1, a2⟩ := ha.ex
  obtain ⟨tgt, g1, g2⟩ := hg.ex
  obtain ⟨tb, b1, b2⟩ := hb.ex
  refine ⟨_, ps_for hp hc (pi_enum hgl hm (pa_cons a1 pa_nil he0) hs) g1 b1 hs2, fun as σ H ρ cs D Dd w ev ek h S => a2 as σ H ρ cs Dd.ex _ _ w ev ek h fun v H1 x cs1 e1 w1 d1 h1 => ?_⟩
  cases d1 <;> try exact h1.elim
  rename_i a xs ds q1 q2
  have hlen := q2.len
  refine ⟨a, xs, rfl, SqL.of (hid1 q1), ?_⟩
  obtain ⟨Inv, h0, hst, hd⟩ := h1
  refine ⟨fun t m σ' H' => m = ds.length - t ∧ t ≤ ds.length ∧ ∃ ρ' cs', Ext as H1 H' ∧ Wk X.K H' as cs' ∧ Ev X.K H' as σ' ρ' ∧ Inv t ρ' cs', ⟨ds.length, by simp, Nat.zero_le _, ρ, cs1, Ext.refl, w1, ev.ext e1, h0⟩, ?_⟩
  rintro t m σ2 H2 ⟨rfl, ht, ρ2, cs2, e2, w2, ev2, i2⟩
  have hL : SqL X.K H2 a xs := SqL.of (hid1 (e2.hid _ _ q1))
  have q2' : DqAll X.K (hid H2 as) xs ds := q2.mono e2.hid
  by_cases hlt : t < ds.length
  · have hx : t < xs.length := by omega
    refine .inr ⟨⟨xs, xs[t], hL, List.getElem?_eq_getElem hx⟩, fun σ' H' => ∃ ρ' cs', Ext as H1 H' ∧ Wk X.K H' as cs' ∧ Ev X.K H' as σ' ρ' ∧ Inv (t + 1) ρ' cs', fun σ' H' q => ⟨ds.length - (t + 1), by omega, rfl, hlt, q⟩, fun x H3 y => ?_⟩
    obtain ⟨T, z, rfl, hT, rfl, hz⟩ := y
    obtain ⟨dz, k1, k2⟩ := q2'.get' (hz xs hL)
    have en : nth ds t = dz := by unfold nth; rw [List.getD_eq_getElem?_getD, k1]; rfl
    obtain ⟨ρ3, p1, p2⟩ := hst t ρ2 cs2 hlt i2
    have dx : Dq X.K (hid (upd H2 T (.tup [.int (t : Nat), z])) as) (.ref T) (.tuple [.int t, nth ds t]) := by
      refine .tup (SqT.of (hid_new (w2.fresh hT))) (.cons (.int _) (.cons ?_ .nil))
      rw [en]
      exact k2.mono (new_mono hT)
    have w3 := w2.grow (Same.new (o := .tup [.int (t : Nat), z]) hT)
    have e3 : Ext as H1 (upd H2 T (.tup [.int (t : Nat), z])) := e2.trans (Ext.of (Same.new hT))
    refine g2 as σ2 _ ρ2 ρ3 _ _ _ (ev2.ext (Ext.of (Same.new hT))) dx p1 fun σ3 ev3 => ?_
    refine b2 as σ3 _ ρ3 cs2 _ { Dd with nx := fun k ρ' cs' => Inv (t + 1) (ρ'.map (disSl k cs')) (cs'.drop k), ct := fun k ρ' cs' => Inv (t + 1) (ρ'.map (disSl k cs')) (cs'.drop k), bk := Dd.nx } w3 ev3 ((ek.ext e1).ext e3) p2 ?_
    have S1 := (S.ext w1 e1).ext w3 e3
    exact ⟨fun ex σ4 H4 ρ4 cs4 hf e4 w4 ev4 q => ⟨_, _, e3.trans e4, w4.drop, ev4.diss w4, q⟩, S1.nx, fun ex σ4 H4 ρ4 cs4 hf e4 w4 ev4 q => ⟨_, _, e3.trans e4, w4.drop, ev4.diss w4, q⟩, S1.rt, S1.rf⟩
  · have e : t = ds.length := by omega
    subst e
    exact .inl ⟨⟨xs, hL, by omega⟩, S.nx [] σ2 H2 ρ2 cs2 Nw.nil (e1.trans e2) w2 ev2 (hd ρ2 cs2 i2)⟩
/-! ### [.. for a, b in ..] -/
def setV : List Nat → List V → L2.St → L2.St
  | i :: is, v :: vs, σ => setV is vs (σ.set i (some v))
  | _, _, σ => σ
theorem setV_len : ∀ (is : List Nat) (vs : List V) (σ : L2.St), (setV is vs σ).length = σ.length
  | [], _, _ => rfl
  | _ :: _, [], _ => rfl
  | i :: is, v :: vs, σ => by
    show (setV is vs (σ.set i (some v))).length = _
    rw [setV_len is vs, List.length_set]
theorem wipe_at (σ : L2.St) : ∀ (js : List Nat) (k : Nat), (wipe σ js)[k]? = if k ∈ js then (if k < σ.length then some none else none) else σ[k]?
  | [], k => by show σ[k]? = _; simp
  | j :: js, k => by
    show ((wipe σ js).set j none)[k]? = _
    rw [List.getElem?_set, wipe_length, wipe_at σ js k]
    by_cases e : j = k
    · subst e
      simp
    · rw [if_neg e]
      have : k ∈ j :: js ↔ k ∈ js := by simp [Ne.symm e]
      simp only [this]
theorem setV_out : ∀ (is : List Nat) (vs : List V) (σ : L2.St) (k : Nat), k ∉ is → (setV is vs σ)[k]? = σ[k]?
  | [], _, _, _, _ => rfl
  | _ :: _, [], _, _, _ => rfl
  | i :: is, v :: vs, σ, k, h => by
    show (setV is vs (σ.set i (some v)))[k]? = _
    rw [setV_out is vs _ k (fun z => h (List.mem_cons_of_mem _ z)), List.getElem?_set_ne (fun z => h (by rw [z]; exact List.mem_cons_self))]
theorem wipe_setV (is : List Nat) (vs : List V) (σ : L2.St) : wipe (setV is vs (wipe σ is)) is = wipe σ is := by
  refine List.ext_getElem? fun k => ?_
  rw [wipe_at, wipe_at, setV_len, wipe_length]
  by_cases h : k ∈ is
  · rw [if_pos h, if_pos h]
  · rw [if_neg h, if_neg h, setV_out is vs _ k h, wipe_at, if_neg h]
theorem setV_eq : ∀ (is : List Nat) (vs : List V) (σ1 σ2 : L2.St), vs.length = is.length → σ1.length = σ2.length → (∀ k, k ∉ is → σ1[k]? = σ2[k]?) → setV is vs σ1 = setV is vs σ2
  | [], vs, σ1, σ2, _, _, h => by
    show σ1 = σ2
    exact List.ext_getElem? fun k => h k (by simp)
  | i :: is, v :: vs, σ1, σ2, hl, hn, h => by
    show setV is vs (σ1.set i (some v)) = setV is vs (σ2.set i (some v))
    refine setV_eq is vs _ _ (by simpa using hl) (by rw [List.length_set, List.length_set]; exact hn) fun k hk => ?_
    rw [List.getElem?_set, List.getElem?_set, hn]
    by_cases e : i = k
    · rw [if_pos e, if_pos e]
    · rw [if_neg e, if_neg e]
      exact h k (fun z => (List.mem_cons.mp z).elim (fun q => e q.symm) hk)
  | _ :: _, [], _, _, hl, _, _ => by simp at hl
theorem names_okV {as : List CA} {H : Hp} {Q : L2.St → Hp → Prop} : ∀ {is : List Nat} {vs : List V} {σ : L2.St}, vs.length = is.length → Q (setV is vs σ) H → gNames is vs σ H Q
  | [], [], σ, _, k => ⟨rfl, k⟩
  | i :: is, v :: vs, σ, h, k => ⟨_, _, rfl, names_okV (is := is) (as := as) (by simpa using h) k⟩
  | [], _ :: _, _, h, _ => by simp at h
  | _ :: _, [], _, h, _ => by simp at h
theorem ev_setV {as : List CA} {H : Hp} : ∀ {is : List Nat} {vs : List V} {ds : List PyData} {σ : L2.St} {ρ ρ' : List Sl}, Ev K H as σ ρ → DqAll K (hid H as) vs ds → setAll is ds ρ = some ρ' → Ev K H as (setV is vs σ) ρ'
  | [], _, _, σ, ρ, ρ', ev, .nil, h => by
    cases (show some ρ = some ρ' from h)
    exact ev
  | i :: is, _, _, σ, ρ, ρ', ev, .cons d ds, h => ev_setV (is := is) (ev_set (s := .d _) ev i ⟨_, rfl, d⟩) ds h
  | [], _, _, _, _, _, _, .cons _ _, h => by cases h
  | _ :: _, _, _, _, _, _, _, .nil, h => by cases h
def dLcT (di : DI) (is : List Nat) (dt : DT) (de : DE) : DL := fun ρ cs Ed Q => di ρ cs Ed fun n item cs1 => ∃ Inv : Nat → List PyData → CS → Prop, Inv 0 [] cs1 ∧
  (∀ t acc cs, t < n → Inv t acc cs → ∃ ρ', putT is (item t) (ρ.map (shSl 1)) = some ρ' ∧ dt ρ' (acc :: cs) X0 fun b cs2 => if b = true
    then de ρ' cs2 X0 fun y cs3 => match cs3 with
      | acc' :: cs' => acc'.length < sizeLine ∧ Inv (t + 1) (acc' ++ [y]) cs'
      | [] => False
    else match cs2 with
      | acc' :: cs' => Inv (t + 1) acc' cs'
      | [] => False) ∧
  ∀ acc cs, Inv n acc cs → Q acc cs
theorem lc_coreT {wi : TI} {is : List Nat} {tt : TT} {te : TE} {di : DI} {dt : DT} {de : DE} (i2 : SI K E wi di) (t2 : ST K E0 tt dt) (e2 : SE K E0 te de) : SN K E (tLc wi (gTup K is.length (gNames is)) tt te is) (dLcT di is dt de) := fun as σ H ρ cs Ed Qd Q w ev ek h k =>
  i2 as σ H ρ cs Ed _ _ w ev ek h fun J H1 n item cs1 e1 w1 it h1 D hD => by
    obtain ⟨Inv, h0, hs, hd⟩ := h1
    have ev1 := ev.ext e1
    have w0 : Wk K (upd H1 D (.lst [])) (cl D :: as) ([] :: cs1) := w1.newc hD .nil
    have e0 : ∀ {H'}, Ext (cl D :: as) (upd H1 D (.lst [])) H' → Ext as H1 H' := fun {H'} q => Ext.cut (ex := [cl D]) (Nw.lst hD) (Ext.of (Same.new hD)) q
    refine ⟨fun t m H' => m = n - t ∧ t ≤ n ∧ ∃ acc cs', Ext (cl D :: as) (upd H1 D (.lst [])) H' ∧ Wk K H' (cl D :: as) (acc :: cs') ∧ Inv t acc cs', ⟨n, by simp, Nat.zero_le _, [], cs1, Ext.refl, w0, h0⟩, ?_⟩
    rintro t m H2 ⟨rfl, ht, acc, cs2, x2, w2, q2⟩
    have fD : ∀ {H' : Hp}, Nw H1 H' [cl D] := Nw.lst hD
    obtain ⟨z1, z2⟩ := it [cl D] H2 fD (e0 x2)
    by_cases hlt : t < n
    · obtain ⟨z3, z4⟩ := z1 t hlt
      refine .inr ⟨z3, fun H' => ∃ acc cs', Ext (cl D :: as) (upd H1 D (.lst [])) H' ∧ Wk K H' (cl D :: as) (acc :: cs') ∧ Inv (t + 1) acc cs', fun H' q => ⟨n - (t + 1), by omega, rfl, hlt, q⟩, fun x H3 y => ?_⟩
      obtain ⟨rfl, dx⟩ := z4 x H3 y
      obtain ⟨ρ', p1, p2⟩ := hs t acc cs2 hlt q2
      have evs : Ev K H3 (cl D :: as) σ (ρ.map (shSl 1)) := Ev.sh (ex := [cl D]) fD ev1 (e0 x2)
      cases hit : item t with
      | tuple ds =>
        rw [hit] at dx p1
        cases dx with
        | tup g1 g2 =>
          rename_i a xs
          have p1' : setAll is ds (ρ.map (shSl 1)) = some ρ' := p1
          have hlen : xs.length = is.length := by rw [g2.len]; exact setAll_len p1'
          have ev3 : Ev K H3 (cl D :: as) (setV is xs (wipe σ is)) ρ' := by
            rw [setV_eq is xs (wipe σ is) σ hlen (wipe_length σ is) fun k hk => by rw [wipe_at, if_neg hk]]
            exact ev_setV evs g2 p1'
          refine ⟨a, xs, rfl, hidT g1, hlen, names_okV (as := cl D :: as) hlen ⟨wipe_setV is xs σ, ?_⟩⟩
          refine t2 (cl D :: as) _ H3 _ (acc :: cs2) X0 _ _ w2 ev3 ek0 p2 fun b H4 cs4 e4 w4 h4 => ?_
          cases b with
          | true =>
            refine iteT (e2 (cl D :: as) _ H4 _ cs4 X0 _ _ w4 (ev3.ext e4) ek0 (show de _ cs4 X0 _ by simpa using h4) fun y' H5 yd cs5 e5 w5 d5 h5 => ?_)
            obtain ⟨acc5, cs5', xs5, rfl, g1, g2⟩ := w5.head
            obtain ⟨h6, h7⟩ := h5
            refine ⟨xs5, g1, by rw [g2.len]; exact h6, _, _, ((x2.trans e4).trans e5).trans (ext_upd w5 (j := 0) rfl), ?_, h7⟩
            exact w5.put (j := 0) rfl (g2.app (.one d5))
          | false =>
            obtain ⟨acc5, cs5', xs5, rfl, g1, g2⟩ := w4.head
            exact iteF ⟨_, _, x2.trans e4, w4, by simpa using h4⟩
      | _ => rw [hit] at p1; cases p1
    · have e : t = n := by omega
      subst e
      refine .inl ⟨z2, k D H2 acc cs2 (e1.trans (e0 x2)) (fresh_of w1 e1 hD) w2 (hd acc cs2 q2)⟩
theorem q_lcT {elt tg iter : Expr} {scope : Scope} {pos : Pos} {di : DI} {de : DE} {own : List (Str × Nat)} (hc : X.calm = true) (hN : X.N.Nodup) (hi : QI X E tg iter di) (ok : BlkOk X.N X.env.scope scope own)
    (hg : ∀ (s : Shared) (H : Hp) (C : Addr) (cl : List (Str × Addr)) (fp : List Addr), PG (X.blk s H scope (compEnvC scope cl C X.env) fp) tg (gTup X.K (own.map (·.2)).length (gNames (own.map (·.2)))))
    (he : ∀ (s : Shared) (H : Hp) (C : Addr) (cl : List (Str × Addr)) (fp : List Addr), QE (X.blk s H scope (compEnvC scope cl C X.env) fp) E0 elt de)
    (hs : ∀ x, foldedSetIterable iter X.env x = pure x := by intro _; rfl) : QN X E (.ListComp elt [⟨tg, iter, [], 0⟩] scope pos) (dLcT di (own.map (·.2)) dYes de) := by
  obtain ⟨wi, i1, i2⟩ := hi.ex
  exact ⟨_, pe_lc (own := own) (g := gTup X.K (own.map (·.2)).length (gNames (own.map (·.2)))) (tt := tYes) (te := tOfE X.K E0 de) hc hN i1 ok hg (fun _ _ _ _ _ => pts_nil) (fun s H C cl fp => (he s H C cl fp).can) hs, lc_coreT i2 st_yes' se_can⟩
end
end Kp

namespace Kp
open PySem PySem.Spec PyProof.Rows L2
/-! ### the root of any number below 2 ^ 400 -/
section
variable {X : Cx} {E : XK} {K : Frag}
def rIsqW : List V → Hp → VK → Prop := fun xs H Q => ∃ i : Int, xs = [.int i] ∧ 0 ≤ i ∧ i < 2 ^ 400 ∧ Q (.int ((Float64.isqrt i.toNat : Nat) : Int)) H
theorem log_400 {i : Int} (h0 : 0 ≤ i) (h1 : i < 2 ^ 400) : i.toNat.log2 ≤ 399 := by
  by_cases z : i.toNat = 0
  · rw [z, Nat.log2_zero]; exact Nat.zero_le _
  · have e : (2 : Int) ^ 400 = ((2 ^ 400 : Nat) : Int) := by norm_cast
    have l : i.toNat < 2 ^ 400 := by omega
    exact Nat.le_of_lt_succ ((Nat.log2_lt z).mpr l)
theorem call_isqW : CallR X (.builtin "math.isqrt") rIsqW := by
  intro pins s σ H xs us Q I r h
  obtain ⟨i, rfl, h0, h1, q⟩ := h
  obtain ⟨u, rfl, t, rfl⟩ := vals1 r
  have l := log_400 h0 h1
  have g := (PySem.W.mg_run_isqrt i t (show ¬ i < 0 by omega) (show ¬ i.toNat.log2 > 200000 by omega) (show ¬ i.toNat.log2 / 30 + 1 > 450 by omega)).meets
  exact call_function_meets
    PySem.W.MGF.kind_isqrt
    PySem.W.MGF.plain_isqrt
    PySem.W.MGF.entry_isqrt
    (PySem.W.MGF.args_isqrt _)
    g ⟨.int _, H, I.tok _, ⟨_, rfl⟩, q⟩
def cIsqW : RC := fun ds Q => match ds with
  | [.int i] => (0 ≤ i ∧ i < 2 ^ 400) ∧ Q (.int ((Float64.isqrt i.toNat : Nat) : Int))
  | _ => False
theorem sc_isqW : SC K rIsqW cIsqW := fun as H cs vs ds Qd Q w d h k => by
  match ds, d with
  | [.int i], .cons (.int _) .nil => exact ⟨i, rfl, h.1.1, h.1.2, k _ H _ (Same.refl H) (.int _) h.2⟩
theorem q_isqW {e : Expr} {p pos : Pos} {da : DA} (hm : X.mg "isqrt" = some (.builtin "math.isqrt")) (ha : QA X E [e] da) (hg : Gl X "isqrt" := by rfl) (hdb : (("isqrt" : Str) == ("__debug__" : Str)) = false := by decide)
    (he : starEach [e] X.env = (false, eval e X.env) :: starEach [] X.env := by rfl) (hpl : (backTo pos (starEach [] X.env)).any (·.1) = false := by rfl) : QE X E (.Call (.Name "isqrt" p) [e] [] pos) (dCB cIsqW da) := by
  obtain ⟨ta, a1, a2⟩ := ha.ex
  refine ⟨_, ⟨fun pins s σ H Q I h => ?_⟩, se_cb sc_isqW a2⟩
  refine wpAny_Call_Name_kw (ld_glob I hg hm ?_ hdb)
  exact PyProof.Rows.callWith_builtin1 (thn (a1.run pos pins s σ H _ I h) fun us s1 ⟨vs, H1, I1, r1, q1⟩ => call_isqW pins s1 σ H1 vs us Q I1 r1 q1) he hpl
/-! ### products of any size, a tuple so often -/
theorem tmul1 (l : Addr) (its : Array Value) (n : Nat) (dd : Option Addr) (sl : Array (Option Value)) (u : Tok) :
    Meets (Builtin.«tuple.__mul__» ⟨[.ref l, .int 1 u], []⟩) (fun _ R s => s.heap.get? l = some { cls := .type "tuple", dict := dd, data := .seq its n, slots := sl } ∧ R (.ok (.ret (Value.ref l))) s) :=
  .of_wp fun prog w A R s h => by
    obtain ⟨hp, g, d, tk, os⟩ := s
    obtain ⟨hl, h⟩ := h
    have f1 := AutoSeq1.idx_int
    wp_walk using wpAny_loadPart' hl
    exact ⟨_, rfl, h⟩
def rRep1 (K : Frag) : R2 := fun x y H Q => ∃ l xs, x = .ref l ∧ y = .int 1 ∧ SqT K H l xs ∧ Q (.ref l) H
theorem op_rep1 : OpR X (binaryOp .Mult) (rRep1 X.K) := by
  intro pins s σ H x y v u Q I rx ry h
  obtain ⟨l, xs, rfl, rfl, hT, q⟩ := h
  cases rx
  obtain ⟨t, rfl⟩ := ry
  obtain ⟨its, r, ⟨⟨cls, dd, data, sl⟩, ho, hc, n, hd⟩, hs⟩ := I.tuple hT
  simp only at hc hd
  subst hc hd
  refine wpAny_binaryOp_repeat_ref (T := "tuple") (U := "int")
    (by decide) ⟨_, ho, rfl⟩ (fun s' => typeIs_int s' 1 t)
    noFill_tuple_mul F.fills_int_mul F.slot_int_rmul repeat_tuple
    F.slot_int_index.lookup
    (call_meets F.slot_int_rmul (typeIs_int s 1 t) F.entry_int_rmul
      (F.args_int_rmul_2 _ _)
      (int_rmul_tuple 1 t l its.toArray n dd sl)
      ⟨ho, rfl, ⟨_, ho, rfl⟩, ?_⟩)
  refine call_meets F.slot_tuple_mul ⟨_, ho, rfl⟩
    F.entry_tuple_mul
    (F.args_tuple_mul_2 _ _)
    (tmul1 l its.toArray n dd sl t) ?_
  exact ⟨ho, .ref l, H, I, rfl, q⟩
abbrev rTimesW (K : Frag) : R2 := fun x y H Q => rI CMulW (fun i j => .int (i * j)) x y H Q ∨ (rRep1 K x y H Q ∨ rRepT K x y H Q)
theorem op_timesW : OpR X (binaryOp .Mult) (rTimesW X.K) := OpR.or op_mulW (OpR.or op_rep1 op_repT)
def dTimesW : R2D := fun x y Q => match x, y with
  | .int i, .int j => CMulW i j ∧ Q (.int (i * j))
  | .tuple xs, .int n => (1 ≤ n ∧ n ≤ 1000 ∧ xs ≠ [] ∧ xs.length ≤ 1000) ∧ Q (.tuple (List.replicate n.toNat xs).flatten)
  | _, _ => False
theorem sr_timesW : SR K (rTimesW K) dTimesW := fun as H cs v u x y Qd Q w hx hy h k => by
  cases hx with
  | int i =>
    cases hy <;> try exact h.elim
    exact .inl ⟨_, _, rfl, rfl, h.1, k _ H _ (Same.refl H) (.int _) h.2⟩
  | tup g1 g2 =>
    cases hy <;> try exact h.elim
    rename_i n
    obtain ⟨⟨h1, h2, h3, h4⟩, h5⟩ := h
    by_cases e : n = 1
    · subst e
      have h6 := h5
      rw [show (List.replicate (1 : Int).toNat _).flatten = _ from by
        show ([_] : List (List PyData)).flatten = _
        rw [List.flatten_cons, List.flatten_nil, List.append_nil]] at h6
      exact .inr (.inl ⟨_, _, rfl, rfl, hidT g1, k _ H _ (Same.refl H) (.tup g1 g2) h6⟩)
    · refine .inr (.inr ⟨_, n, _, rfl, rfl, hidT g1, fun z => ?_, by omega, h2, by rw [g2.len]; exact h4, fun p hp => ?_⟩)
      · subst z
        cases g2
        exact h3 rfl
      · exact k _ _ _ (Same.new hp) (.tup (SqT.of (hid_new (w.fresh hp))) ((g2.flat _).mono (new_mono hp))) h5
  | _ => exact h.elim
/-! ### a number in a row of numbers -/
def dInI (neg : Bool) : R2D := fun x y Q => match x, y with
  | .int s, .tuple ds => ∃ ss : List Int, ds = ss.map .int ∧ Q (.bool (if neg then !(ss.any (· == s)) else ss.any (· == s)))
  | _, _ => False
theorem flat_ints : ∀ ss : List Int, (ss.map V.int).all flatV = true
  | [] => rfl
  | _ :: r => by simp only [List.map_cons, List.all_cons, flat_ints r]; rfl
theorem in_ints (s : Int) : ∀ ss : List Int, inV (.int s) (ss.map V.int) = ss.any (· == s)
  | [] => rfl
  | a :: r => by
    have h := in_ints s r
    unfold inV at h ⊢
    simp only [List.map_cons, List.any_cons, h]
    rfl
theorem sr_inI (neg : Bool) : SR K (rIn K neg) (dInI neg) := fun as H cs v u x y Qd Q w hx hy h k => by
  cases hx <;> try exact h.elim
  cases hy <;> try exact h.elim
  rename_i s a xs ds g1 g2
  obtain ⟨ss, rfl, h3⟩ := h
  have e := dq_ints' ss g2
  subst e
  refine ⟨a, _, rfl, .inr (hidT g1), rfl, flat_ints ss, ?_⟩
  rw [in_ints]
  exact k _ H _ (Same.refl H) (.bl _) h3
/-! ### a op b op' c, as a test -/
theorem se_chain {K : Frag} {r r' : R2} {rd rd' : R2D} {ta tb tc : TE} {da db dc : DE} (hr : SR K r rd) (hr' : SR K r' rd') (a2 : SE K E ta da) (b2 : SE K E tb db) (c2 : SE K E tc dc) : SE K E (tChain r r' ta tb tc) (dChain rd rd' da db dc) := by
  refine fun as σ H ρ cs Ed Qd Q w e ek h k => a2 as σ H ρ cs Ed _ _ w e ek h fun v H1 x cs1 e1 w1 d1 h1 => b2 as σ H1 ρ cs1 Ed _ _ w1 (e.ext e1) (ek.ext e1) h1 fun u H2 y cs2 e2 w2 d2 h2 => ?_
  refine hr as H2 cs2 v u x y _ _ w2 (d1.mono e2.hid) d2 h2 fun z H3 zz s3 d3 h3 => ?_
  cases d3 <;> try exact h3.elim
  rename_i b
  refine ⟨b, rfl, ?_⟩
  have e3 : Ext as H H3 := (e1.trans e2).trans (Ext.of s3)
  cases b with
  | false => exact iteF (k _ H3 _ cs2 e3 (w2.grow s3) (.bl false) (by simpa using h3))
  | true =>
    refine iteT (c2 as σ H3 ρ cs2 Ed _ _ (w2.grow s3) (e.ext e3) (ek.ext e3) (show dc ρ cs2 Ed _ by simpa using h3) fun u' H4 y' cs4 e4 w4 d4 h4 => ?_)
    exact hr' as H4 cs4 u u' y y' _ _ w4 ((d2.mono (Ext.of (as := as) s3).hid).mono e4.hid) d4 h4 fun z H5 zz s5 d5 h5 => k z H5 zz cs4 ((e3.trans e4).trans (Ext.of s5)) (w4.grow s5) d5 h5
theorem q_tchain {a b c : Expr} {op op' : CmpOp} {pos : Pos} {r r' : R2} {rd rd' : R2D} {da db dc : DE} (ho : OpR X (compareOp op) r) (hr : SR X.K r rd) (ho' : OpR X (compareOp op') r') (hr' : SR X.K r' rd') (ha : QE X E a da) (hb : QE X E b db) (hc : QE X E c dc)
    (hm : lastMarks [op, op'] [b, c] = false := by with_unfolding_all rfl) : QT X E (.Compare a [op, op'] [b, c] pos) (dTB (dChain rd rd' da db dc)) := by
  obtain ⟨ta, a1, a2⟩ := ha.ex
  obtain ⟨tb, b1, b2⟩ := hb.ex
  obtain ⟨tc, c1, c2⟩ := hc.ex
  refine ⟨_, pt_chain ho ho' a1 b1 c1 hm, fun as σ H ρ cs Ed Qd Q w ev ek h k => (se_chain hr hr' a2 b2 c2) as σ H ρ cs Ed _ _ w ev ek h fun v H1 x cs1 e1 w1 d1 h1 => ?_⟩
  cases d1 <;> try exact h1.elim
  exact ⟨_, rfl, k _ H1 cs1 e1 w1 h1⟩
/-! ### sum of ints -/
def cSum : RC := fun ds Q => match ds with
  | [.list xs] => ∃ ns : List Int, xs = ns.map .int ∧ Q (.int ns.sum)
  | _ => False
theorem sc_sum : SC K (rSum K) cSum := fun as H cs vs ds Qd Q w d h k => by
  match ds, d with
  | [.list xs], .cons (.lst h1 h2) .nil =>
    obtain ⟨bs, rfl, h3⟩ := h
    have e := dq_ints' bs h2
    subst e
    exact ⟨_, bs, rfl, SqL.of (hid1 h1), k _ H _ (Same.refl H) (.int _) h3⟩
/-! ### a def with one keyword-only None -/
structure CalZ (P : Program) (w : World) (K : Frag) (mg : Str → Option Value) (base : Heap) (k : Nat) (name : Str) (ps : List Str) (n : Nat) (kw : Str) (f : FD) : Prop where
  ex : ∃ (a : Addr) (fd : FuncData) (ds : List Value), mg name = some (.ref a) ∧ PySem.W.keepIn K (.ref a) = true ∧ FnOk P w K mg base (L2.CX P w) k a fd ps (spD K f) ∧ Vals [V.non] ds ∧ Binds K fd ps ds ∧ KBn K fd ps n [kw] (fun us ws => us ++ ws) (fun vs zs => vs ++ zs)
def dCallZ (f : FD) (da : DA) : DE := fun ρ cs Ed Q => da ρ cs Ed fun ss cs1 => f (ss ++ [.d .none]) cs1 Ed Q
theorem ar_non {H : Hp} {as : List CA} : Ar K H as [V.non] [.d .none] := .cons ⟨⟨_, rfl, .non⟩, fun z => by cases z⟩ .nil
theorem q_callZ {k n : Nat} {name kw : Str} {ps : List Str} {f : FD} {e : Expr} {es : List Expr} {p pos : Pos} {da : DA} (F : CalZ X.prog X.w X.K X.mg X.base k name ps n kw f) (hr : Room k X.A) (hx : Passes (L2.CX X.prog X.w) X E) (ha : QA X E (e :: es) da)
    (hg : Gl X name := by rfl) (hdb : (name == ("__debug__" : Str)) = false := by decide) (he : starEach (e :: es) X.env = (false, eval e X.env) :: starEach es X.env := by rfl) (hpl : (backTo pos (starEach es X.env)).any (·.1) = false := by rfl) :
    QE X E (.Call (.Name name p) (e :: es) [] pos) (dCallZ f da) := by
  obtain ⟨a, fd, ds, h1, h2, h3, h4, h5, h6⟩ := F.ex
  obtain ⟨ta, a1, a2⟩ := ha.ex
  refine ⟨_, pe_call h3 hr hg h1 h2 h5 h4 hx a1 hdb he hpl, fun as σ H ρ cs Ed Qd Q w e ek h k => a2 as σ H ρ cs Ed _ _ w e ek h fun vs H1 ss cs1 e1 w1 d1 q1 => ?_⟩
  exact ⟨as, ss ++ [.d .none], cs1, Ed, Qd, w1, ar_app d1 ar_non, ek.ext e1, q1, fun v H' x cs' e2 w2 d2 q2 => k v H' x cs' (e1.trans e2) w2 d2 q2⟩
theorem q_callZe {k n : Nat} {name kw : Str} {ps : List Str} {f : FD} {e v : Expr} {es : List Expr} {p pos kpos : Pos} {da : DA} {dv : DE} (hv : QE X E v dv) (F : CalZ X.prog X.w X.K X.mg X.base k name ps n kw f) (hr : Room k X.A) (hx : Passes (L2.CX X.prog X.w) X E) (ha : QA X E (e :: es) da)
    (hg : Gl X name := by rfl) (hdb : (name == ("__debug__" : Str)) = false := by decide) (he : starEach (e :: es) X.env = (false, eval e X.env) :: starEach es X.env := by rfl)
    (hall : (backToKw pos (keywordEach [⟨some kw, v, kpos⟩] X.env)).all (·.1.isSome) = true := by rfl) (hks : (backToKw pos (keywordEach [⟨some kw, v, kpos⟩] X.env)).filterMap (·.1) = [kw] := by rfl)
    (hpl : ((backTo pos (starEach (e :: es) X.env)).any (·.1) || (backToKw pos (keywordEach [⟨some kw, v, kpos⟩] X.env)).any (·.1.isNone)) = false := by rfl) :
    QE X E (.Call (.Name name p) (e :: es) [⟨some kw, v, kpos⟩] pos) (dCallKe n f da dv) := by
  obtain ⟨a, fd, ds, h1, h2, h3, h4, h5, h6⟩ := F.ex
  obtain ⟨ta, a1, a2⟩ := ha.ex
  obtain ⟨tv, v1, v2⟩ := hv.ex
  refine ⟨_, pe_callN h3 hr hg h1 h2 h6 hx a1 (pk_cons v1 pk_nil) hall hks hdb he hpl, fun as σ H ρ cs Ed Qd Q w ev ek h k => a2 as σ H ρ cs Ed _ _ w ev ek h fun vs H1 ss cs1 e1 w1 d1 q1 => v2 as σ H1 ρ cs1 Ed _ _ w1 (ev.ext e1) (ek.ext e1) q1 fun u H2 x cs2 e2 w2 d2 q2 => ?_⟩
  obtain ⟨hl, hf⟩ := q2
  refine ⟨(pr_len d1).trans hl, rfl, ?_⟩
  exact ⟨as, ss ++ [.d x], cs2, Ed, Qd, w2, ar_app (d1.ext e2) (.cons (show SlOk X.K H2 as (some u) (.d x) ∧ Sl.d x ≠ .no from ⟨⟨u, rfl, d2⟩, fun z => by cases z⟩) .nil), (ek.ext e1).ext e2, hf, fun v' H' x' cs' e3 w3 d3 q3 => k v' H' x' cs' ((e1.trans e2).trans e3) w3 d3 q3⟩
end
section
variable {P : Program} {w : World} {K : Frag} {mg : Str → Option Value} {base : Heap} {name qual kw : Str} {params : Arguments} {body : List Stmt} {scope : Scope} {a : Addr} {fd : FuncData} {ps : List Str} {k n : Nat} {f : FD}
theorem kb_allZ (F : FunD K name qual params body scope [] [(kw, .non)] a fd) (n : Nat)
    (h : ∀ (kV doc pm : Value) (an : Option Addr) (cdv ct : Value) (us ws : List Value), us.length = n → ws.length = 1 → bindArgs (PySem.W.fnOf name qual params body scope .none kV doc pm an cdv ct) ⟨us, [kw].zip ws⟩ = pure (ps.zip (us ++ ws))) : KBn K fd ps n [kw] (fun us ws => us ++ ws) (fun vs zs => vs ++ zs) := by
  obtain ⟨oc, od, dV, kV, doc, pm, an, cdv, ct, osl, rfl, lk, hcd, hD, hK⟩ := F.ex
  rcases hD with ⟨_, rfl⟩ | ⟨e, _⟩
  · exact ⟨fun s us ws _ l1 l2 => .of_eq (h kV doc pm an cdv ct us ws l1 l2), fun r1 r2 => r1.append r2⟩
  · exact absurd rfl e
theorem calZ_of (F : FunD K name qual params body scope [] [(kw, .non)] a fd) (hm : mg name = some (.ref a)) (hf : FnOk P w K mg base (L2.CX P w) k a fd ps (spD K f)) (h0 : ∃ ds, Vals [V.non] ds ∧ Binds K fd ps ds) (hk : KBn K fd ps n [kw] (fun us ws => us ++ ws) (fun vs zs => vs ++ zs)) : CalZ P w K mg base k name ps n kw f := by
  obtain ⟨ds, h1, h2⟩ := h0
  exact ⟨a, fd, ds, hm, F.kp, hf, h1, h2, hk⟩
end
end Kp

namespace Kp
open PySem PySem.Spec PyProof.Rows L2
/-! ### a dict of words of one's own: a cell with its keys -/
def keyAt : List Str → Str → Option Nat
  | [], _ => none
  | x :: r, s => if x = s then some 0 else (keyAt r s).map (· + 1)
theorem kvz_cons (x : Str) (r : List Str) (v : V) (vs : List V) : kvz (x :: r) (v :: vs) = (.inr x, v) :: kvz r vs := rfl
theorem inr_eq {x s : Str} : ((.inr x : L2.Key) = .inr s) ↔ x = s := ⟨fun h => Sum.inr.inj h, fun h => by rw [h]⟩
theorem val_kvz : ∀ {keys : List Str} {vs : List V} {s : Str} {m : Nat}, keyAt keys s = some m → vs.length = keys.length → valV (kvz keys vs) (Sum.inr s : L2.Key) = vs[m]?
  | [], _, _, _, h, _ => by cases h
  | x :: r, [], _, _, _, h => by simp at h
  | x :: r, v :: vs, s, m, h, hl => by
    unfold keyAt at h
    rw [kvz_cons]
    unfold valV
    by_cases e : x = s
    · rw [if_pos e] at h
      cases h
      rw [List.find?_cons_of_pos (by rw [decide_eq_true (inr_eq.mpr e)])]
      rfl
    · rw [if_neg e] at h
      rw [List.find?_cons_of_neg (by rw [decide_eq_false (fun z => e (inr_eq.mp z))]; decide)]
      cases q : keyAt r s with
      | none => rw [q] at h; cases h
      | some n =>
        rw [q] at h
        cases h
        exact val_kvz q (by simpa using hl)
theorem keyAt_mem : ∀ {keys : List Str} {s : Str} {m : Nat}, keyAt keys s = some m → s ∈ keys ∧ m < keys.length
  | [], _, _, h => by cases h
  | x :: r, s, m, h => by
    unfold keyAt at h
    by_cases e : x = s
    · rw [if_pos e] at h
      cases h
      exact ⟨by rw [e]; exact List.mem_cons_self, by simp⟩
    · rw [if_neg e] at h
      cases q : keyAt r s with
      | none => rw [q] at h; cases h
      | some n =>
        rw [q] at h
        cases h
        obtain ⟨h1, h2⟩ := keyAt_mem q
        exact ⟨List.mem_cons_of_mem _ h1, by simpa using h2⟩
theorem any_kvz : ∀ {keys : List Str} {vs : List V} {s : Str}, s ∈ keys → vs.length = keys.length → ((kvz keys vs).any fun kv => decide (kv.1 = (.inr s : L2.Key))) = true
  | [], _, _, h, _ => by simp at h
  | x :: r, [], _, _, h => by simp at h
  | x :: r, v :: vs, s, h, hl => by
    rw [kvz_cons, List.any_cons]
    by_cases e : x = s
    · rw [decide_eq_true (inr_eq.mpr e)]; rfl
    · rw [any_kvz ((List.mem_cons.mp h).resolve_left fun z => e z.symm) (by simpa using hl), Bool.or_true]
theorem map_kvz0 : ∀ {keys : List Str} {vs : List V} {s : Str} {u : V}, s ∉ keys → vs.length = keys.length → ((kvz keys vs).map fun kv => if kv.1 = (.inr s : L2.Key) then (kv.1, u) else kv) = kvz keys vs
  | [], _, _, _, _, _ => rfl
  | x :: r, [], _, _, _, h => by simp at h
  | x :: r, v :: vs, s, u, h, hl => by
    rw [kvz_cons, List.map_cons, if_neg fun z => h (by rw [← inr_eq.mp z]; exact List.mem_cons_self), map_kvz0 (fun z => h (List.mem_cons_of_mem _ z)) (by simpa using hl)]
theorem map_kvz : ∀ {keys : List Str} {vs : List V} {s : Str} {m : Nat} {u : V}, keyAt keys s = some m → keys.Nodup → vs.length = keys.length → ((kvz keys vs).map fun kv => if kv.1 = (.inr s : L2.Key) then (kv.1, u) else kv) = kvz keys (vs.set m u)
  | [], _, _, _, _, h, _, _ => by cases h
  | x :: r, [], _, _, _, _, _, h => by simp at h
  | x :: r, v :: vs, s, m, u, h, hn, hl => by
    obtain ⟨n1, n2⟩ := List.nodup_cons.mp hn
    unfold keyAt at h
    by_cases e : x = s
    · rw [if_pos e] at h
      cases h
      rw [kvz_cons, List.map_cons, if_pos (inr_eq.mpr e), map_kvz0 (by rw [← e]; exact n1) (by simpa using hl)]
      rfl
    · rw [if_neg e] at h
      cases q : keyAt r s with
      | none => rw [q] at h; cases h
      | some n =>
        rw [q] at h
        cases h
        rw [kvz_cons, List.map_cons, if_neg fun z => e (inr_eq.mp z), map_kvz q n2 (by simpa using hl)]
        rfl
theorem put_kvz {keys : List Str} {vs : List V} {s : Str} {m : Nat} {u : V} (h : keyAt keys s = some m) (hn : keys.Nodup) (hl : vs.length = keys.length) : putK (kvz keys vs) (.inr s : L2.Key) u = kvz keys (vs.set m u) := by
  unfold putK
  rw [if_pos (any_kvz (keyAt_mem h).1 hl), map_kvz h hn hl]
theorem any_out {acc : List (L2.Key × V)} {x : Str} {u : V} {y : Str} (h : (acc.any fun kv => decide (kv.1 = (.inr y : L2.Key))) = false) (e : x ≠ y) : ((acc ++ [((.inr x : L2.Key), u)]).any fun kv => decide (kv.1 = (.inr y : L2.Key))) = false := by
  rw [List.any_append, h, List.any_cons, decide_eq_false (fun z => e (inr_eq.mp z))]; rfl
theorem merge_kvz : ∀ {keys : List Str} {vs : List V} {acc : List (L2.Key × V)}, keys.Nodup → vs.length = keys.length → (∀ x ∈ keys, (acc.any fun kv => decide (kv.1 = (.inr x : L2.Key))) = false) → mergeK acc (kvz keys vs) = acc ++ kvz keys vs
  | [], vs, acc, _, _, _ => by show acc = acc ++ []; rw [List.append_nil]
  | x :: r, [], _, _, h, _ => by simp at h
  | x :: r, v :: vs, acc, hn, hl, ha => by
    obtain ⟨n1, n2⟩ := List.nodup_cons.mp hn
    rw [kvz_cons]
    show mergeK (putK acc (.inr x) v) (kvz r vs) = _
    have e1 : putK acc (.inr x : L2.Key) v = acc ++ [(.inr x, v)] := by
      unfold putK
      rw [ha x List.mem_cons_self]; rfl
    rw [e1, merge_kvz n2 (by simpa using hl) fun y hy => any_out (ha y (List.mem_cons_of_mem _ hy)) fun z => n1 (by rw [z]; exact hy), List.append_assoc]
    rfl
theorem kvz_len {keys : List Str} {vs : List V} (hl : vs.length = keys.length) : (kvz keys vs).length = keys.length := by
  unfold kvz
  rw [List.length_zip, List.length_map, hl, Nat.min_self]
section
variable {K : Frag} {E : XK} {X : Cx}
/-- x['k'], x a name of such a cell -/
def dKey (i : Nat) (s : Str) : DE := fun ρ cs _ Q => match ρ[i]? with
  | some (.k keys j) => ∃ m ds d, keyAt keys s = some m ∧ cs[j]? = some ds ∧ ds[m]? = some d ∧ Q d cs
  | _ => False
theorem q_key {k : Nat} {a : Expr} {s : Str} {c0 : Nat} {p2 pos : Pos} (i : Nat) (ha : PE X a (tVar i)) (hr : Room k X.A) : QE X E (.Subscript a (.Constant (.str s) c0 p2) pos) (dKey i s) := by
  have hu : X.A.units + 1 < cLine := by have := room100 hr; omega
  refine ⟨_, pe_dget hu ha pe_str (fun _ _ => rfl), fun as σ H ρ cs Ed Qd Q w ev ek h kk => ?_⟩
  unfold dKey at h
  cases q : ρ[i]? with
  | none => rw [q] at h; exact h.elim
  | some sl =>
    rw [q] at h
    obtain ⟨o, ho, hs⟩ := pr_get ev q
    cases sl with
    | k keys j =>
      obtain ⟨a, g1, rfl⟩ := hs
      obtain ⟨m, ds, d, h1, h2, h3, h4⟩ := h
      obtain ⟨vs, g2, g3, g4⟩ := w.dic g1 h2
      obtain ⟨v, g5, g6⟩ := g4.get h3
      exact ⟨_, ho, a, v, rfl, .inl ⟨_, .inr s, .inl g2, rfl, by rw [val_kvz h1 g3]; exact g5.symm⟩, kk v H d cs Ext.refl w g6 h4⟩
    | _ => exact h.elim
theorem Wk.putK {H : Hp} {as : List CA} {cs : CS} {a : Addr} {j m : Nat} {keys : List Str} {vs : List V} {ds : List PyData} {v : V} {x : PyData} (w : Wk K H as cs) (hj : as[j]? = some ⟨a, .dic keys⟩) (hl : vs.length = keys.length) (d : DqAll K (hid H as) vs ds) (dx : Dq K (hid H as) v x) :
    Wk K (upd H a (.dK (kvz keys (vs.set m v)))) as (cs.set j (ds.set m x)) :=
  w.putO (f := ⟨a, .dic keys⟩) hj rfl rfl ⟨_, upd_same, by rw [List.length_set]; exact hl, by rw [hid_updK w hj]; exact d.set dx m⟩
theorem dput {H : Hp} {a : Addr} {keys : List Str} {vs : List V} {s : Str} {m : Nat} {v : V} (g : H a = some (.dK (kvz keys vs))) (h : keyAt keys s = some m) (hn : keys.Nodup) (hk : keys.length < 100) (hl : vs.length = keys.length) : DPut H a (.str s) v (upd H a (.dK (kvz keys (vs.set m v)))) :=
  .inl ⟨_, .inr s, g, rfl, by rw [kvz_len hl, sizeLine_eq]; omega, by rw [put_kvz h hn hl]⟩
/-- x['k'] = e -/
def dKSet (i : Nat) (s : Str) (dv : DE) : DS := fun Dd ρ cs => dv ρ cs Dd.ex fun x cs1 => match ρ[i]? with
  | some (.k keys j) => ∃ m ds, (keyAt keys s = some m ∧ keys.Nodup ∧ keys.length < 100) ∧ cs1[j]? = some ds ∧ Dd.nx 0 ρ (cs1.set j (ds.set m x))
  | _ => False
theorem q_kset {k : Nat} {o e : Expr} {s : Str} {c0 : Nat} {p3 pos p2 : Pos} {dv : DE} (i : Nat) (ho : PE X o (tVar i)) (hr : Room k X.A) (hv : QE X E e dv)
    (ha : ∀ v, assign (.Subscript o (.Constant (.str s) c0 p3) p2) X.env v = (do
      let ov ← holding [v] (eval o X.env)
      let iv ← holding [v, ov] (eval (.Constant (.str s) c0 p3) X.env)
      standAt p2
      holding [v, ov, iv] (setItem ov iv v)
      release [v, ov, iv] []) := by intro _; rfl)
    (hs : swapsWithSole [.Subscript o (.Constant (.str s) c0 p3) p2] e pos.line X.env = pure false := by rfl) (hw : swappedStores [.Subscript o (.Constant (.str s) c0 p3) p2] e X.env = pure none := by rfl)
    (h1 : (assignEach [.Subscript o (.Constant (.str s) c0 p3) p2] X.env).map (·.2) = [assign (.Subscript o (.Constant (.str s) c0 p3) p2) X.env] := by rfl) : QS X E (.Assign [.Subscript o (.Constant (.str s) c0 p3) p2] e pos) (dKSet i s dv) := by
  have hu : X.A.units + 1 < cLine := by have := room100 hr; omega
  obtain ⟨tv, v1, v2⟩ := hv.ex
  refine ⟨_, ps_asg v1 (pg_sub ho pe_str (set_dict hu) ha) hs hw h1, fun as σ H ρ cs D Dd w ev ek h S => v2 as σ H ρ cs Dd.ex _ _ w ev ek h fun v H1 x cs1 e1 w1 d1 h1 => ?_⟩
  cases q : ρ[i]? with
  | none => rw [q] at h1; exact h1.elim
  | some sl =>
    rw [q] at h1
    obtain ⟨o, hoo, hs⟩ := pr_get ev q
    cases sl with
    | k keys j =>
      obtain ⟨a, g1, rfl⟩ := hs
      obtain ⟨m, ds, ⟨z1, z2, z3⟩, h2, h3⟩ := h1
      obtain ⟨vs, g2, g3, g4⟩ := w1.dic g1 h2
      refine ⟨_, hoo, a, _, rfl, dput g2 z1 z2 z3 g3, ?_⟩
      exact S.nx [] σ _ ρ _ Nw.nil (e1.trans (ext_updK w1 g1)) (w1.putK g1 g3 g4 d1) ((ev.ext e1).ext (ext_updK w1 g1)) h3
    | _ => exact h1.elim
/-- x['k'], x['l'] = e, f -/
def dKSet2 (i : Nat) (s s2 : Str) (da : DA) : DS := fun Dd ρ cs => da ρ cs Dd.ex fun ss cs1 => match allD ss with
  | some [x, y] => match ρ[i]? with
    | some (.k keys j) => ∃ m m2 ds, (keyAt keys s = some m ∧ keyAt keys s2 = some m2 ∧ keys.Nodup ∧ keys.length < 100) ∧ cs1[j]? = some ds ∧ Dd.nx 0 ρ (cs1.set j ((ds.set m x).set m2 y))
    | _ => False
  | _ => False
theorem q_kset2 {k : Nat} {o o2 a b : Expr} {s s2 : Str} {c0 c1 k1 k2 : Nat} {p1 p2 p3 p4 p5 p6 pos : Pos} {da : DA} (i : Nat) (hc : X.calm = true) (ho : PE X o (tVar i)) (ho2 : PE X o2 (tVar i)) (hr : Room k X.A) (hA : QA X E [a, b] da)
    (ha : ∀ v, assign (.Subscript o (.Constant (.str s) c0 p3) p2) X.env v = (do
      let ov ← holding [v] (eval o X.env)
      let iv ← holding [v, ov] (eval (.Constant (.str s) c0 p3) X.env)
      standAt p2
      holding [v, ov, iv] (setItem ov iv v)
      release [v, ov, iv] []) := by intro _; rfl)
    (hb : ∀ v, assign (.Subscript o2 (.Constant (.str s2) c1 p5) p4) X.env v = (do
      let ov ← holding [v] (eval o2 X.env)
      let iv ← holding [v, ov] (eval (.Constant (.str s2) c1 p5) X.env)
      standAt p4
      holding [v, ov, iv] (setItem ov iv v)
      release [v, ov, iv] []) := by intro _; rfl)
    (hm : (assignEach [.Subscript o (.Constant (.str s) c0 p3) p2, .Subscript o2 (.Constant (.str s2) c1 p5) p4] X.env).map (·.2) = assign (.Subscript o (.Constant (.str s) c0 p3) p2) X.env :: (assignEach [.Subscript o2 (.Constant (.str s2) c1 p5) p4] X.env).map (·.2) := by rfl)
    (hm2 : (assignEach [.Subscript o2 (.Constant (.str s2) c1 p5) p4] X.env).map (·.2) = assign (.Subscript o2 (.Constant (.str s2) c1 p5) p4) X.env :: (assignEach [] X.env).map (·.2) := by rfl)
    (hn : (assignEach [.Subscript o (.Constant (.str s) c0 p3) p2, .Subscript o2 (.Constant (.str s2) c1 p5) p4] X.env).length = 2 := by rfl)
    (hst : (assignEach [.Subscript o (.Constant (.str s) c0 p3) p2, .Subscript o2 (.Constant (.str s2) c1 p5) p4] X.env).findIdx? (·.1) = none := by rfl)
    (hs : swapsWithSole [.Tuple [.Subscript o (.Constant (.str s) c0 p3) p2, .Subscript o2 (.Constant (.str s2) c1 p5) p4] k1 p1] (.Tuple [a, b] k2 p6) pos.line X.env = pure false := by rfl)
    (hw : swappedStores [.Tuple [.Subscript o (.Constant (.str s) c0 p3) p2, .Subscript o2 (.Constant (.str s2) c1 p5) p4] k1 p1] (.Tuple [a, b] k2 p6) X.env = pure none := by rfl)
    (h1 : (assignEach [.Tuple [.Subscript o (.Constant (.str s) c0 p3) p2, .Subscript o2 (.Constant (.str s2) c1 p5) p4] k1 p1] X.env).map (·.2) = [assign (.Tuple [.Subscript o (.Constant (.str s) c0 p3) p2, .Subscript o2 (.Constant (.str s2) c1 p5) p4] k1 p1) X.env] := by rfl) :
    QS X E (.Assign [.Tuple [.Subscript o (.Constant (.str s) c0 p3) p2, .Subscript o2 (.Constant (.str s2) c1 p5) p4] k1 p1] (.Tuple [a, b] k2 p6) pos) (dKSet2 i s s2 da) := by
  have hu : X.A.units + 1 < cLine := by have := room100 hr; omega
  obtain ⟨ta, a1, a2⟩ := hA.ex
  refine ⟨_, ps_asg (pe_tup a1) (pg_tup hc (pgs_cons (pg_sub ho pe_str (set_dict hu) ha) (pgs_cons (pg_sub ho2 pe_str (set_dict hu) hb) pgs_nil hm2) hm) hn hst) hs hw h1, fun as σ H ρ cs D Dd w ev ek h S => a2 as σ H ρ cs Dd.ex _ _ w ev ek h fun vs H1 ss cs1 e1 w1 d1 h1 => ?_⟩
  cases q0 : allD ss with
  | none => rw [q0] at h1; exact h1.elim
  | some ds0 =>
    rw [q0] at h1
    have d2 := allD_ok d1 q0
    match ds0, d2, h1 with
    | [x, y], .cons (v := v) dx (.cons (v := u) dy .nil), h1 =>
      cases q : ρ[i]? with
      | none => rw [q] at h1; exact h1.elim
      | some sl =>
        rw [q] at h1
        obtain ⟨o, hoo, hs⟩ := pr_get ev q
        cases sl with
        | k keys j =>
          obtain ⟨a, g1, rfl⟩ := hs
          obtain ⟨m, m2, ds, ⟨z1, z2, z3, z4⟩, h2, h3⟩ := h1
          refine ⟨by show (2 : Nat) ≤ sizeLine; rw [sizeLine_eq]; omega, fun p hp => ?_⟩
          have wp := w1.grow (Same.new (o := .tup [v, u]) hp)
          have ep : Ext as H1 (upd H1 p (.tup [v, u])) := Ext.of (Same.new hp)
          obtain ⟨vs, g2, g3, g4⟩ := wp.dic g1 h2
          have w2 := wp.putK (m := m) g1 g3 g4 (dx.mono ep.hid)
          have e2 := ext_updK (o := .dK (kvz keys (vs.set m v))) wp g1
          have hl2 : (vs.set m v).length = keys.length := by rw [List.length_set]; exact g3
          have hj : j < cs1.length := (List.getElem?_eq_some_iff.mp h2).1
          obtain ⟨vs2, g5, g6, g7⟩ := w2.dic g1 (List.getElem?_set_self hj)
          have w3 := w2.putK (m := m2) g1 g6 g7 ((dy.mono ep.hid).mono e2.hid)
          refine ⟨_, _, rfl, SqT.of upd_same, rfl, ⟨_, _, rfl, ⟨_, hoo, a, _, rfl, dput g2 z1 z3 z4 g3, ⟨_, _, rfl, ⟨_, hoo, a, _, rfl, dput g5 z2 z3 z4 g6, ⟨rfl, ?_⟩⟩⟩⟩⟩⟩
          have e4 := ext_updK (o := .dK (kvz keys (vs2.set m2 u))) w2 g1
          rw [List.set_set] at w3
          exact S.nx [] σ _ ρ _ Nw.nil (((e1.trans ep).trans e2).trans e4) w3 ((((ev.ext e1).ext ep).ext e2).ext e4) h3
        | _ => exact h1.elim
/-- {'k': e, ..}: x a new cell of such keys -/
def dAll : List DE → List Sl → CS → XD → (List PyData → CS → Prop) → Prop
  | [], _, cs, _, Q => Q [] cs
  | d :: r, ρ, cs, Ed, Q => d ρ cs Ed fun x cs1 => dAll r ρ cs1 Ed fun xs cs2 => Q (x :: xs) cs2
def SP (K : Frag) (E : XK) (trs : List (TE × TE)) (ks : List Str) (ds : List DE) : Prop := ∀ (as : List CA) (σ : L2.St) (H : Hp) (ρ : List Sl) (cs : CS) (Ed : XD) (Qd : List PyData → CS → Prop) (Q : List (V × V) → Hp → Prop),
  Wk K H as cs → Ev K H as σ ρ → EK K E Ed as H → dAll ds ρ cs Ed Qd → (∀ vs H' xs cs', Ext as H H' → Wk K H' as cs' → DqAll K (hid H' as) vs xs → vs.length = ks.length → Qd xs cs' → Q ((kvz ks vs).map fun kv => (kV kv.1, kv.2)) H') → tPairs trs σ H Q
structure QP (X : Cx) (E : XK) (pos : Pos) (keys : List (Option Expr)) (values : List Expr) (ks : List Str) (ds : List DE) : Prop where
  ex : ∃ trs, PPs X pos keys values trs ∧ SP X.K E trs ks ds
theorem qp_nil {pos : Pos} : QP X E pos [] [] [] [] := ⟨_, pps_nil, fun as σ H ρ cs Ed Qd Q w ev ek h k => k [] H [] cs Ext.refl w .nil rfl h⟩
theorem qp_cons {pos p2 : Pos} {c0 : Nat} {s : Str} {keys : List (Option Expr)} {v : Expr} {values : List Expr} {ks : List Str} {d : DE} {ds : List DE} (hv : QE X E v d) (hr : QP X E pos keys values ks ds) : QP X E pos (some (.Constant (.str s) c0 p2) :: keys) (v :: values) (s :: ks) (d :: ds) := by
  obtain ⟨tv, v1, v2⟩ := hv.ex
  obtain ⟨trs, r1, r2⟩ := hr.ex
  refine ⟨_, pps_cons pe_str v1 r1, fun as σ H ρ cs Ed Qd Q w ev ek h k => ?_⟩
  show tC (.str s) σ H fun k1 H1 => tv σ H1 fun v H2 => tPairs trs σ H2 fun ps H3 => Q ((k1, v) :: ps) H3
  refine v2 as σ H ρ cs Ed _ _ w ev ek h fun u H1 x cs1 e1 w1 d1 h1 => r2 as σ H1 ρ cs1 Ed _ _ w1 (ev.ext e1) (ek.ext e1) h1 fun vs H2 xs cs2 e2 w2 d2 hl h2 => ?_
  exact k (u :: vs) H2 (x :: xs) cs2 (e1.trans e2) w2 (.cons (d1.mono e2.hid) d2) (by rw [List.length_cons, List.length_cons, hl]) h2
theorem Wk.newk {H : Hp} {as : List CA} {cs : CS} {p : Addr} (w : Wk K H as cs) (hp : H p = none) : Wk K (upd H p (.dK [])) (⟨p, .dic []⟩ :: as) ([] :: cs) :=
  ⟨(show (p :: hdl (upd H p (.dK [])) as).Nodup by
    rw [hdl_same w.lv (Same.new hp)]
    exact List.nodup_cons.mpr ⟨(w.fresh hp).2, w.nd⟩), .cons ⟨[], upd_same, rfl, .nil⟩ (pr_map (fun f ds q => q.move (hid_sh (ex := [⟨p, .dic []⟩]) (Nw.dic hp) (Ext.of (Same.new hp))) fun b _ o h => (Same.new hp) _ _ h) w.cel)⟩
theorem vs_dic {H : Hp} {as : List CA} {p b : Addr} {ks ks' : List Str} (h : Vs H (⟨p, .dic ks⟩ :: as) b) : Vs H (⟨p, .dic ks'⟩ :: as) b := ⟨fun i f q => by
  cases i with
  | zero => cases q; rfl
  | succ i => exact h.1 (i + 1) f q, h.2⟩
theorem hid_dic {H : Hp} {as : List CA} {p : Addr} {ks ks' : List Str} : hid H (⟨p, .dic ks⟩ :: as) = hid H (⟨p, .dic ks'⟩ :: as) := by
  funext b
  by_cases q : Vs H (⟨p, .dic ks⟩ :: as) b
  · rw [hid_out q, hid_out (vs_dic q)]
  · unfold hid
    rw [if_neg q, if_neg fun z => q (vs_dic z)]
theorem Wk.kind {H : Hp} {as : List CA} {cs : CS} {p : Addr} {keys : List Str} {vs : List V} {ds c0 : List PyData} (w : Wk K H (⟨p, .dic []⟩ :: as) (c0 :: cs)) (hl : vs.length = keys.length) (d : DqAll K (hid H (⟨p, .dic []⟩ :: as)) vs ds) : Wk K (upd H p (.dK (kvz keys vs))) (⟨p, .dic keys⟩ :: as) (ds :: cs) := by
  have e : hid (upd H p (.dK (kvz keys vs))) (⟨p, .dic keys⟩ :: as) = hid H (⟨p, .dic []⟩ :: as) := by
    rw [hid_dic (ks' := [])]
    exact hid_updK w (j := 0) rfl
  have nd0 : (p :: hdl H as).Nodup := w.nd
  obtain ⟨n1, n2⟩ := List.nodup_cons.mp nd0
  have nf : ∀ (i : Nat) (f : CA), as[i]? = some f → ∀ b ∈ adr H f, b ≠ p := fun i f hi b hb z => n1 (mem_hdl.mpr ⟨i, f, hi, by rw [← z]; exact hb⟩)
  refine ⟨(show (p :: hdl (upd H p (.dK (kvz keys vs))) as).Nodup by
    rw [hdl_eq (H := H) fun i f hi => adr_upd (nf i f hi f.a adr_self)]
    exact nd0), .cons ⟨vs, upd_same, hl, by rw [e]; exact d⟩ ?_⟩
  cases w.cel with
  | cons _ t =>
    refine pr_mapm (fun f es hf q => q.move (by rw [e]; exact Same.refl _) fun b hb o h => ?_) t
    obtain ⟨i, hi⟩ := List.getElem?_of_mem hf
    rw [upd_ne (nf i f hi b hb)]
    exact h
def dKNew (i : Nat) (ks : List Str) (ds : List DE) : DS := fun Dd ρ cs => dAll ds (ρ.map (shSl 1)) ([] :: cs) (fun C cs' => Dd.ex C (cs'.drop 1)) fun xs cs1 => match cs1 with
  | _ :: cs2 => (ks.Nodup ∧ ks.length < 15) ∧ Dd.nx 1 ((ρ.map (shSl 1)).set i (.k ks 0)) (xs :: cs2)
  | [] => False
theorem q_knew {keys : List (Option Expr)} {values : List Expr} {pos pos' p2 : Pos} {ks : List Str} {ds : List DE} {x : Str} (i : Nat) (hN : X.N.Nodup) (hp : QP X E p2 keys values ks ds) (hall : keys.all (·.isSome) = true := by rfl) (hlen : keys.length = values.length := by rfl) (h0 : keys ≠ [] := by intro z; cases z) (h15 : keys.length ≤ 15 := by decide)
    (hi : X.N[i]? = some x := by rfl) (hx : Loc X.env.scope x := by first | exact Or.inl rfl | exact Or.inr rfl) (hs : swapsWith (.Dict keys values p2) (some (.Name x pos')) pos.line X.env = pure false := by rfl)
    (hf : X.fn x = true ∨ X.env.scope.names.lookup x = some .local := by first | exact .inl rfl | exact .inr rfl) : QS X E (.Assign [.Name x pos'] (.Dict keys values p2) pos) (dKNew i ks ds) := by
  obtain ⟨trs, a1, a2⟩ := hp.ex
  refine ⟨_, ps_set hN hi hx (pe_disp a1 hall hlen h0 h15) hs hf, fun as σ H ρ cs D Dd w ev ek h S => fun p hp => ?_⟩
  have hf1 : ∀ {H' : Hp}, Nw H H' [⟨p, .dic []⟩] := Nw.dic hp
  have e0 : Ext as H (upd H p (.dK [])) := Ext.of (Same.new hp)
  have w0 := w.newk hp
  refine a2 (⟨p, .dic []⟩ :: as) σ _ _ _ _ _ _ w0 (Ev.sh hf1 ev e0) (ek.push (ex := [⟨p, .dic []⟩]) hf1 e0) h fun vs H1 xs cs1 e1 w1 d1 hl h1 => ?_
  have e2 : Ext as H H1 := e0.cut (ex := [⟨p, .dic []⟩]) hf1 e1
  cases cs1 with
  | nil => exact h1.elim
  | cons c0 cs2 =>
    obtain ⟨⟨z1, z2⟩, h2⟩ := h1
    cases w1.cel with
    | cons c _ =>
      obtain ⟨vs0, c1, c2, _⟩ := c
      have e3 : H1 p = some (.dK []) := by
        rw [c1]
        cases vs0 with
        | nil => rfl
        | cons a b => simp at c2
      refine ⟨e3, kvz ks vs, rfl, by rw [kvz_len hl]; omega, ?_⟩
      rw [merge_kvz z1 hl (fun _ _ => rfl), List.nil_append]
      have w2 := w1.kind hl d1
      have hf2 : ∀ {H' : Hp}, Nw H H' [⟨p, .dic ks⟩] := Nw.dic hp
      have e4 : Ext as H (upd H1 p (.dK (kvz ks vs))) := e0.cut (ex := [⟨p, .dic []⟩]) hf1 (e1.trans (ext_updK w1 (j := 0) rfl))
      exact S.nx [⟨p, .dic ks⟩] _ _ _ (xs :: cs2) hf2 e4 w2 (ev_set (s := .k ks 0) (Ev.sh hf2 ev e4) i ⟨p, rfl, rfl⟩) h2
end
end Kp

namespace Kp
open PySem PySem.Spec PyProof.Rows L2
theorem dict_eq_str (d : Addr) (b : Str) (u : Tok) : Meets (Builtin.«dict.__eq__» { pos := [Value.ref d, Value.str b u] }) fun _ R s => R (Except.ok (Flow.ret Value.notImplemented)) s :=
  Meets.of_wp fun prog w A R s h => by
    have f1 := F.sub_str_dict
    refine wpAny_bind (wpAny_bind ?_)
    refine wpAny_ite_false (by decide +kernel) (wpAny_pure ?_)
    refine wpAny_bind ?_
    refine wpAny_pure (wpAny_pure ?_)
    refine wpAny_bind (wpAny_bind (wpAny_pure (wpAny_of_eq f1 ?_)))
    refine wpAny_ite_true rfl ?_
    refine wpAny_bind (wpAny_rule ?_)
    exact wpAny_pure ⟨_, rfl, h⟩
theorem dict_ne_str (d : Addr) (b : Str) (u : Tok) : Meets (Builtin.«dict.__ne__» { pos := [Value.ref d, Value.str b u] }) fun _ R s => R (Except.ok (Flow.ret Value.notImplemented)) s :=
  Meets.of_wp fun prog w A R s h => by
    have f1 := F.sub_str_dict
    refine wpAny_bind (wpAny_bind ?_)
    refine wpAny_ite_false (by decide +kernel) (wpAny_pure ?_)
    refine wpAny_bind ?_
    refine wpAny_pure (wpAny_pure ?_)
    refine wpAny_bind (wpAny_bind (wpAny_pure (wpAny_of_eq f1 ?_)))
    refine wpAny_ite_true rfl ?_
    refine wpAny_bind (wpAny_rule ?_)
    exact wpAny_pure ⟨_, rfl, h⟩
theorem str_eq_dict (b : Str) (u : Tok) (l : Addr) (c : Value) (es : Array DictEntry) (n : Nat) (dd : Option Addr) (sl : Array (Option Value)) :
    Meets (Builtin.«str.__eq__» { pos := [Value.str b u, Value.ref l] }) fun _ R s => s.heap.get? l = some { cls := c, dict := dd, data := Data.dict es n, slots := sl } ∧ R (Except.ok (Flow.ret Value.notImplemented)) s :=
  Meets.of_wp fun prog w A R s h => by
    obtain ⟨hl, h⟩ := h
    refine wpAny_bind (wpAny_bind ?_)
    refine wpAny_pure ?_
    refine wpAny_bind (wpAny_bind (wpAny_pure (wpAny_pure (wpAny_pure ?_))))
    refine wpAny_bind (wpAny_bind (wpAny_load hl (wpAny_pure ?_)))
    refine wpAny_bind (wpAny_rule ?_)
    exact wpAny_pure ⟨_, rfl, h⟩

theorem str_ne_dict (b : Str) (u : Tok) (l : Addr) (c : Value) (es : Array DictEntry) (n : Nat) (dd : Option Addr) (sl : Array (Option Value)) :
    Meets (Builtin.«str.__ne__» { pos := [Value.str b u, Value.ref l] }) fun _ R s => s.heap.get? l = some { cls := c, dict := dd, data := Data.dict es n, slots := sl } ∧ R (Except.ok (Flow.ret Value.notImplemented)) s :=
  Meets.of_wp fun prog w A R s h => by
    obtain ⟨hl, h⟩ := h
    refine wpAny_bind (wpAny_bind ?_)
    refine wpAny_pure ?_
    refine wpAny_bind (wpAny_bind (wpAny_pure (wpAny_pure (wpAny_pure ?_))))
    refine wpAny_bind (wpAny_bind (wpAny_load hl (wpAny_pure ?_)))
    refine wpAny_bind (wpAny_rule ?_)
    exact wpAny_pure ⟨_, rfl, h⟩
theorem dict_eq_tup (d l : Addr) (items : Array Value) (n : Nat) (dd : Option Addr) (sl : Array (Option Value)) :
    Meets (Builtin.«dict.__eq__» { pos := [Value.ref d, Value.ref l] }) fun _ R s => s.heap.get? l = some { cls := Value.type "tuple", dict := dd, data := Data.seq items n, slots := sl } ∧ R (Except.ok (Flow.ret Value.notImplemented)) s :=
  Meets.of_wp fun prog w A R s h => by
    obtain ⟨hb, h⟩ := h
    have f1 := F.sub_tuple_dict
    refine wpAny_bind (wpAny_bind ?_)
    refine wpAny_ite_false (by decide +kernel) (wpAny_pure ?_)
    refine wpAny_bind ?_
    refine wpAny_pure (wpAny_pure ?_)
    refine wpAny_bind (wpAny_bind (wpAny_bind (wpAny_loadPart' hb (wpAny_pure (wpAny_of_eq f1 ?_)))))
    refine wpAny_ite_true rfl ?_
    refine wpAny_bind (wpAny_rule ?_)
    exact wpAny_pure ⟨_, rfl, h⟩
theorem tup_eq_dict (l d : Addr) (c : Value) (es : Array DictEntry) (n : Nat) (dd : Option Addr) (sl : Array (Option Value)) :
    Meets (Builtin.«tuple.__eq__» { pos := [Value.ref l, Value.ref d] }) fun _ R s => s.heap.get? d = some { cls := Value.type "dict", dict := dd, data := Data.dict es n, slots := sl } ∧ R (Except.ok (Flow.ret Value.notImplemented)) s :=
  Meets.of_wp fun prog w A R s h => by
    obtain ⟨hb, h⟩ := h
    have f1 := F.sub_dict_tuple
    refine wpAny_bind ?_
    refine wpAny_pure ?_
    refine wpAny_bind (wpAny_bind (wpAny_bind (wpAny_loadPart' hb (wpAny_pure (wpAny_of_eq f1 ?_)))))
    refine wpAny_ite_true rfl ?_
    exact wpAny_pure ⟨_, rfl, h⟩
def IsDct (h : Heap) (a : Addr) : Prop := ∃ (es : Array DictEntry) (ep : Nat), h.get? a = some { cls := Value.type "dict", dict := none, data := Data.dict es ep, slots := #[] }
section
variable {A : Around} {s : Shared}
theorem rc_dict_str {d : Addr} (hl : IsDct s.heap d) (hu : A.units < cLine) (b : Str) (u : Tok) : SeqAt.RcAt A s (.ref d) (.str b u) false := fun prog w E Q h => by
  obtain ⟨es, ep, ho⟩ := hl
  exact SeqAt.rc_eq_decline_or (Ta := "dict") (Tb := "str") ⟨_, ho, rfl⟩ (typeIs_str s b u) (by decide) F.sub_str_dict F.slot_dict_eq F.slot_str_eq_refl
    (fun Q' hq => call_meets F.slot_dict_eq ⟨_, ho, rfl⟩ F.entry_dict_eq (F.args_dict_eq_2 _ _) (dict_eq_str d b u) hq)
    (fun Q' hq => call_meets F.slot_str_eq_refl (typeIs_str s b u) F.entry_str_eq (F.args_str_eq_2 _ _) (str_eq_dict b u d _ es ep none #[]) ⟨ho, hq⟩)
    (fun Q' hq => wpAny_of_eq rfl hq) (.inr hu) h
theorem rn_dict_str {d : Addr} (hl : IsDct s.heap d) (hu : A.units < cLine) (b : Str) (u : Tok) : SeqAt.RcNeAt A s (.ref d) (.str b u) true := fun prog w E Q h => by
  obtain ⟨es, ep, ho⟩ := hl
  exact SeqAt.rc_ne_decline_or (Ta := "dict") (Tb := "str") (k := false) ⟨_, ho, rfl⟩ (typeIs_str s b u) (by decide) F.sub_str_dict F.slot_dict_ne F.slot_str_ne_refl
    (fun Q' hq => call_meets F.slot_dict_ne ⟨_, ho, rfl⟩ F.entry_dict_ne (F.args_dict_ne_2 _ _) (dict_ne_str d b u) hq)
    (fun Q' hq => call_meets F.slot_str_ne_refl (typeIs_str s b u) F.entry_str_ne (F.args_str_ne_2 _ _) (str_ne_dict b u d _ es ep none #[]) ⟨ho, hq⟩)
    (fun Q' hq => wpAny_of_eq rfl hq) (.inr hu) h
theorem rc_dict_tuple {d l : Addr} {items : Array Value} (hl : IsDct s.heap d) (hb : s.heap.IsTuple l items) (hu : A.units < cLine) : SeqAt.RcAt A s (.ref d) (.ref l) false := fun prog w E Q h => by
  obtain ⟨es, ep, ho⟩ := hl
  obtain ⟨⟨c, dd, data, sl⟩, hb1, hb2, n, hb3⟩ := hb
  cases (show c = _ from hb2)
  cases (show data = _ from hb3)
  have ct : Value.type "dict" ≠ Value.type "tuple" := fun z => absurd (Value.type.inj z) (by decide)
  have ne : d ≠ l := fun z => by
    rw [z, hb1] at ho
    exact ct (congrArg Obj.cls (Option.some.inj ho)).symm
  exact SeqAt.rc_eq_decline_or (Ta := "dict") (Tb := "tuple") ⟨_, ho, rfl⟩ ⟨_, hb1, rfl⟩ (by decide) F.sub_tuple_dict F.slot_dict_eq F.slot_tuple_eq_refl
    (fun Q' hq => call_meets F.slot_dict_eq ⟨_, ho, rfl⟩ F.entry_dict_eq (F.args_dict_eq_2 _ _) (dict_eq_tup d l items n dd sl) ⟨hb1, hq⟩)
    (fun Q' hq => call_meets F.slot_tuple_eq_refl ⟨_, hb1, rfl⟩ F.entry_tuple_eq (F.args_tuple_eq_2 _ _) (tup_eq_dict l d (.type "dict") es ep none #[]) ⟨ho, hq⟩)
    (fun Q' hq => by
      unfold isSame
      simp [ne]
      exact wpAny_bind (wpAny_load ho (wpAny_bind (wpAny_load hb1 (wpAny_pure hq))))) (.inr hu) h
theorem ea_dict_str {d : Addr} (hl : IsDct s.heap d) (hu : A.units < cLine) (b : Str) (u : Tok) : SeqAt.EqAt A s (.ref d) (.str b u) false := fun prog w E Q h =>
  id (wpAny_holding (wpAny_ite_split (fun hab => absurd (eq_of_beq hab) fun a => nomatch a) fun x =>
    wpAny_bind (rc_dict_str hl hu b u prog w E (fun a s' => wpAny (model prog w) A (truthOfDropped a) Q E s') (wpAny_truthy_bool h))))
end
section
variable {X : Cx}
theorem isDct {pins : List (Addr × Obj)} {σ : L2.St} {H : Hp} {s : Shared} {a : Addr} {kvs : List (L2.Key × V)} (I : L2.Inv X pins σ H s) (h : H a = some (.dK kvs)) : IsDct s.heap a := by
  obtain ⟨_, _, vs, _, ⟨c, dd, data, sl⟩, es, ep, h1, ⟨h2, h3, h4⟩, h5, _⟩ := dk_rd I.hok (.inl h)
  cases (show c = _ from h2); cases (show dd = _ from h3); cases (show sl = _ from h4); cases (show data = _ from h5)
  exact ⟨es, ep, h1⟩
theorem isTup {pins : List (Addr × Obj)} {σ : L2.St} {H : Hp} {s : Shared} {a : Addr} {xs : List V} (I : L2.Inv X pins σ H s) (h : SqT X.K H a xs) : ∃ its, Vals xs its ∧ s.heap.IsTuple a its.toArray := by
  obtain ⟨its, h1, h2, _⟩ := I.tuple h
  exact ⟨its, h1, h2⟩
theorem isLst {pins : List (Addr × Obj)} {σ : L2.St} {H : Hp} {s : Shared} {a : Addr} {xs : List V} (I : L2.Inv X pins σ H s) (h : SqL X.K H a xs) : ∃ its : List Value, s.heap.IsList a its.toArray := by
  obtain ⟨its, _, h2, _⟩ := I.list h
  exact ⟨its, h2.isList⟩
theorem ea_str {pins : List (Addr × Obj)} {σ : L2.St} {H : Hp} {s : Shared} {A : Around} {x : V} {d : PyData} {v : Value} (I : L2.Inv X pins σ H s) (hx : Dq X.K H x d) (r : L2.RelV x v) (hu : A.units < cLine) (b : Str) (u : Tok) : SeqAt.EqAt A s v (.str b u) (PyData.eqv d (.str b)) := by
  cases hx with
  | non => cases (show v = _ from r); exact SeqAt.EqAt.none_str b u
  | bl k => cases (show v = _ from r); exact SeqAt.EqAt.bool_str k b u
  | int i => obtain ⟨t, rfl⟩ := r; exact SeqAt.EqAt.int_str i t b u
  | str z => obtain ⟨t, rfl⟩ := r; exact SeqAt.EqAt.str_str z t b u
  | lst h _ => cases (show v = _ from r); obtain ⟨its, q⟩ := isLst I (SqL.of h); exact SeqAt.EqAt.list_str b u q hu
  | tup h _ => cases (show v = _ from r); obtain ⟨its, _, q⟩ := isTup I h; exact SeqAt.EqAt.tuple_str b u q hu
  | emp h => cases (show v = _ from r); exact ea_dict_str (isDct I h) hu b u
theorem ra_str {pins : List (Addr × Obj)} {σ : L2.St} {H : Hp} {s : Shared} {A : Around} {x : V} {d : PyData} {v : Value} (I : L2.Inv X pins σ H s) (hx : Dq X.K H x d) (r : L2.RelV x v) (hu : A.units < cLine) (b : Str) (u : Tok) : SeqAt.RcAt A s v (.str b u) (PyData.eqv d (.str b)) := by
  cases hx with
  | non => cases (show v = _ from r); exact SeqAt.RcAt.none_str b u
  | bl k => cases (show v = _ from r); exact SeqAt.RcAt.bool_str k b u
  | int i => obtain ⟨t, rfl⟩ := r; exact SeqAt.RcAt.int_str i t b u
  | str z => obtain ⟨t, rfl⟩ := r; exact SeqAt.RcAt.str_str z t b u
  | lst h _ => cases (show v = _ from r); obtain ⟨its, q⟩ := isLst I (SqL.of h); exact SeqAt.RcAt.list_str b u q hu
  | tup h _ => cases (show v = _ from r); obtain ⟨its, _, q⟩ := isTup I h; exact SeqAt.RcAt.tuple_str b u q hu
  | emp h => cases (show v = _ from r); exact rc_dict_str (isDct I h) hu b u
theorem rn_str {pins : List (Addr × Obj)} {σ : L2.St} {H : Hp} {s : Shared} {A : Around} {x : V} {d : PyData} {v : Value} (I : L2.Inv X pins σ H s) (hx : Dq X.K H x d) (r : L2.RelV x v) (hu : A.units < cLine) (b : Str) (u : Tok) : SeqAt.RcNeAt A s v (.str b u) (!PyData.eqv d (.str b)) := by
  cases hx with
  | non => cases (show v = _ from r); exact SeqAt.RcNeAt.none_str b u
  | bl k => cases (show v = _ from r); exact SeqAt.RcNeAt.bool_str k b u
  | int i => obtain ⟨t, rfl⟩ := r; exact SeqAt.RcNeAt.int_str i t b u
  | str z => obtain ⟨t, rfl⟩ := r; exact SeqAt.RcNeAt.str_str z t b u
  | lst h _ => cases (show v = _ from r); obtain ⟨its, q⟩ := isLst I (SqL.of h); exact SeqAt.RcNeAt.list_str b u q hu
  | tup h _ => cases (show v = _ from r); obtain ⟨its, _, q⟩ := isTup I h; exact SeqAt.RcNeAt.tuple_str b u q hu
  | emp h => cases (show v = _ from r); exact rn_dict_str (isDct I h) hu b u
def simpY : PyData → Bool
  | .str _ => true
  | .tuple [] => true
  | .tuple [.str _] => true
  | _ => false
theorem simp_tup {ds : List PyData} (h : simpY (.tuple ds) = true) : ds = [] ∨ ∃ b, ds = [.str b] := by
  cases ds with
  | nil => exact .inl rfl
  | cons d r =>
    cases r with
    | nil =>
      cases d with
      | str b => exact .inr ⟨b, rfl⟩
      | _ => cases h
    | cons e r => cases d <;> cases h
theorem tup_nil {pins : List (Addr × Obj)} {σ : L2.St} {H : Hp} {s : Shared} {a1 a2 : Addr} {xs1 xs2 : List V} {ds1 : List PyData} {Q : Value → Shared → Prop} (I : L2.Inv X pins σ H s) (hu : X.A.units < cLine) (h1 : SqT X.K H a1 xs1) (g1 : DqAll X.K H xs1 ds1) (h2 : SqT X.K H a2 xs2) (g2 : DqAll X.K H xs2 [])
    (q : Q (.bool (PyData.eqv (.tuple ds1) (.tuple []))) s) : wpAny (model X.prog X.w) X.A (compareOp .Eq (.ref a1) (.ref a2)) Q X.xe s := by
  obtain ⟨its1, vl1, q1⟩ := isTup I h1
  obtain ⟨its2, vl2, q2⟩ := isTup I h2
  have l1 : its1.length = ds1.length := (Paired.length vl1).symm.trans g1.len
  have l2 : its2.length = 0 := (Paired.length vl2).symm.trans g2.len
  refine SeqAt.eq_tupleAt q1 q2 hu (e := fun _ => true) (fun j _ hj => absurd hj (by simp [l2])) ?_
  have e1 : PyData.eqv (.tuple ds1) (.tuple []) = ds1.isEmpty := by cases ds1 <;> rfl
  rw [e1] at q
  have e2 : ((List.range (min its1.toArray.size its2.toArray.size)).all (fun _ => true) && its1.toArray.size == its2.toArray.size) = ds1.isEmpty := by
    rw [List.size_toArray, List.size_toArray, l1, l2]
    cases ds1 <;> simp
  rw [e2]; exact q
theorem tup_one {pins : List (Addr × Obj)} {σ : L2.St} {H : Hp} {s : Shared} {a1 a2 : Addr} {xs1 xs2 : List V} {ds1 : List PyData} {b : Str} {Q : Value → Shared → Prop} (I : L2.Inv X pins σ H s) (hu : X.A.units + 1 < cLine) (h1 : SqT X.K H a1 xs1) (g1 : DqAll X.K H xs1 ds1) (h2 : SqT X.K H a2 xs2) (g2 : DqAll X.K H xs2 [.str b])
    (q : Q (.bool (PyData.eqv (.tuple ds1) (.tuple [.str b]))) s) : wpAny (model X.prog X.w) X.A (compareOp .Eq (.ref a1) (.ref a2)) Q X.xe s := by
  have hu1 : X.A.units < cLine := by omega
  obtain ⟨its1, vl1, q1⟩ := isTup I h1
  obtain ⟨its2, vl2, q2⟩ := isTup I h2
  cases g2 with
  | cons gy g2 =>
  cases g2
  cases gy
  cases vl2 with
  | cons ru vl2 =>
  cases vl2
  obtain ⟨t, rfl⟩ := ru
  cases g1 with
  | nil =>
    cases vl1
    exact SeqAt.eq_tupleAt q1 q2 hu1 (e := fun _ => true) (fun j hj _ => absurd hj (by simp)) q
  | cons gx gr =>
    cases vl1 with
    | cons rx rr =>
    rename_i x0 xr d0 dr v0 vr
    have l1' : vr.length = dr.length := (Paired.length rr).symm.trans gr.len
    refine SeqAt.eq_tupleAt q1 q2 hu1 (e := fun _ => PyData.eqv d0 (.str b)) (fun j hj hj2 => ?_) ?_
    · have ej : j = 0 := by simp at hj2; omega
      subst ej
      exact ea_str I gx rx (show X.A.units + 1 < cLine from hu) b t
    · have e1 : PyData.eqv (.tuple (d0 :: dr)) (.tuple [.str b]) = (PyData.eqv d0 (.str b) && dr.isEmpty) := by cases dr <;> rfl
      rw [e1] at q
      have e2 : ((List.range (min (v0 :: vr).toArray.size ([Value.str b t] : List Value).toArray.size)).all (fun _ => PyData.eqv d0 (.str b)) && (v0 :: vr).toArray.size == ([Value.str b t] : List Value).toArray.size) = (PyData.eqv d0 (.str b) && dr.isEmpty) := by
        rw [List.size_toArray, List.size_toArray, List.length_cons, l1']
        generalize PyData.eqv d0 (.str b) = k
        cases dr <;> cases k <;> simp <;> decide
      rw [e2]; exact q
def rEqA (K : Frag) : R2 := fun x y H Q => ∃ d e, Dq K H x d ∧ Dq K H y e ∧ simpY e = true ∧ Q (.bl (PyData.eqv d e)) H
def rNeA (K : Frag) : R2 := fun x y H Q => ∃ d b, Dq K H x d ∧ y = .str b ∧ Q (.bl (!PyData.eqv d (.str b))) H
theorem op_neA (hu : X.A.units + 64 < cLine) : OpR X (compareOp .NotEq) (rNeA X.K) := fun pins s σ H x y v u Q I r1 r2 h => by
  obtain ⟨d, b, hx, rfl, q⟩ := h
  obtain ⟨t, rfl⟩ := r2
  exact rn_str I hx r1 (by omega) b t X.prog X.w X.xe _ ⟨.bl _, H, I, rfl, q⟩
theorem op_eqA (hu : X.A.units + 64 < cLine) : OpR X (compareOp .Eq) (rEqA X.K) := fun pins s σ H x y v u Q I r1 r2 h => by
  obtain ⟨d, e, hx, hy, hs, q⟩ := h
  have hu1 : X.A.units < cLine := by omega
  have hu2 : X.A.units + 1 < cLine := by omega
  have fin : ∀ k : Bool, Q (.bl k) H → EP X pins σ Q (.bool k) s := fun k q => ⟨.bl k, H, I, rfl, q⟩
  cases hy with
  | str b =>
    obtain ⟨t, rfl⟩ := r2
    exact ra_str I hx r1 hu1 b t X.prog X.w X.xe _ (fin _ q)
  | tup h2 g2 =>
    rename_i a2 xs2 ds2
    cases (show u = _ from r2)
    obtain ⟨its2, vl2, q2⟩ := isTup I h2
    have far : ∀ {v0 : Value}, PyData.eqv d (.tuple ds2) = false → SeqAt.RcAt X.A s v0 (.ref a2) false → wpAny (model X.prog X.w) X.A (compareOp .Eq v0 (.ref a2)) (EP X pins σ Q) X.xe s := fun hf hr => hr X.prog X.w X.xe _ (fin _ (by rw [← hf]; exact q))
    cases hx with
    | non => cases (show v = _ from r1); exact far rfl (SeqAt.RcAt.none_tuple q2 hu1)
    | bl k => cases (show v = _ from r1); exact far rfl (SeqAt.RcAt.bool_tuple k q2 hu1)
    | int i => obtain ⟨t, rfl⟩ := r1; exact far rfl (SeqAt.RcAt.int_tuple i t q2 hu1)
    | str z => obtain ⟨t, rfl⟩ := r1; exact far rfl (SeqAt.RcAt.str_tuple z t q2 hu1)
    | lst h _ => cases (show v = _ from r1); obtain ⟨its, q1⟩ := isLst I (SqL.of h); exact far rfl (SeqAt.RcAt.list_tuple q1 q2 hu1)
    | emp h => cases (show v = _ from r1); exact far rfl (rc_dict_tuple (isDct I h) q2 hu1)
    | tup h g1 =>
      cases (show v = _ from r1)
      rcases simp_tup hs with e | ⟨b, e⟩
      · subst e; exact tup_nil I hu1 h g1 h2 g2 (fin _ q)
      · subst e; exact tup_one I hu2 h g1 h2 g2 (fin _ q)
  | _ => cases hs
end
/-! at data -/
def dEqA : R2D := fun x y Q => simpY y = true ∧ Q (.bool (PyData.eqv x y))
def dNeA : R2D := fun x y Q => match y with
  | .str b => Q (.bool (!PyData.eqv x (.str b)))
  | _ => False
theorem sr_eqA {K : Frag} : SR K (rEqA K) dEqA := fun as H cs v u x y Qd Q w hx hy h k => ⟨x, y, hx.mono (hid_sub H as), hy.mono (hid_sub H as), h.1, k _ H _ (Same.refl H) (.bl _) h.2⟩
theorem sr_neA {K : Frag} : SR K (rNeA K) dNeA := fun as H cs v u x y Qd Q w hx hy h k => by
  cases hy <;> try exact h.elim
  exact ⟨x, _, hx.mono (hid_sub H as), rfl, k _ H _ (Same.refl H) (.bl _) h⟩
/-- {} as data -/
theorem q_emp {X : Cx} {E : XK} {pos : Pos} : QE X E (.Dict [] [] pos) (dC (.dict [])) := ⟨_, pe_dnewK, fun as σ H ρ cs Ed Qd Q w e ek hq k => fun p hp => k _ _ _ cs (Ext.of (Same.new hp)) (w.grow (Same.new hp)) (.emp (hid_new (w.fresh hp))) hq⟩
end Kp

namespace Kp
open PySem PySem.Spec PyProof.Rows L2
section
variable {X : Cx} {E : XK} {K : Frag}
/-! ### [..] + the script: a list -/
def rCatF (K : Frag) : R2 := fun x y H Q => ∃ l b xs zs, x = .ref l ∧ y = .ref b ∧ SqL K H l xs ∧ SqL K H b zs ∧ xs.length + zs.length ≤ sizeLine ∧ ∀ p, H p = none → Q (.ref p) (upd H p (.lst (xs ++ zs)))
theorem op_catF : OpR X (binaryOp .Add) (rCatF X.K) := fun pins s σ H x y v u Q I rx ry h => by
  obtain ⟨l, b, xs, zs, rfl, rfl, h1, h2, hz, q⟩ := h
  cases (show v = _ from rx)
  cases (show u = _ from ry)
  obtain ⟨its, r, ⟨⟨c, dd, data, sl⟩, n, e1, e2, e3, e4⟩, _⟩ := I.list h1
  obtain ⟨its2, r2, ⟨⟨c2, dd2, data2, sl2⟩, n2, f1, f2, f3, f4⟩, _⟩ := I.list h2
  cases (show c = _ from e2); cases (show data = _ from e4)
  cases (show c2 = _ from f2); cases (show data2 = _ from f4)
  have hl : its.length = xs.length := (Paired.length r).symm
  have hl2 : its2.length = zs.length := (Paired.length r2).symm
  have hsz : its.toArray.size + its2.toArray.size ≤ sizeLine := by rw [List.size_toArray, List.size_toArray, hl, hl2]; exact hz
  refine concat_meets ⟨_, e1, rfl⟩ ⟨_, f1, rfl⟩ noFill_list_add seq_list_add PySem.F.slot_list_add PySem.F.entry_list_add (PySem.F.args_list_add_2 (Value.ref l) (Value.ref b)) (list_addW l b its.toArray its2.toArray n n2 dd dd2 sl sl2 hsz) ⟨e1, f1, ?_⟩
  rw [List.append_toArray]
  exact ⟨.ref s.heap.objs.size, _, I.lnew (r.append r2) (by rw [List.length_append]; exact hz), rfl, q _ I.fresh⟩
def dCatS (i : Nat) (da : DE) : DE := fun ρ cs Ed Q => da ρ cs Ed fun x cs1 => match x with
  | .list xs => match ρ[i]? with
    | some (.f zs) => xs.length + zs.length ≤ sizeLine ∧ Q (.list (xs ++ zs)) cs1
    | _ => False
  | _ => False
theorem q_catS {a b : Expr} {pos : Pos} {da : DE} (i : Nat) (hb : PE X b (tVar i)) (ha : QE X E a da) : QE X E (.BinOp a .Add b pos) (dCatS i da) := by
  obtain ⟨ta, a1, a2⟩ := ha.ex
  refine ⟨_, pe_op op_catF a1 hb, fun as σ H ρ cs Ed Qd Q w e ek h k => a2 as σ H ρ cs Ed _ _ w e ek h fun v H1 x cs1 e1 w1 d1 h1 => ?_⟩
  cases d1 <;> try exact h1.elim
  rename_i a0 xs ds g1 g2
  have ev1 := e.ext e1
  have h2 : (match ρ[i]? with | some (.f zs) => ds.length + zs.length ≤ sizeLine ∧ Qd (.list (ds ++ zs)) cs1 | _ => False) := h1
  cases q : ρ[i]? with
  | none => rw [q] at h2; exact h2.elim
  | some s =>
    rw [q] at h2
    obtain ⟨o, ho, hs⟩ := pr_get ev1 q
    cases s with
    | f zs =>
      obtain ⟨a1, ys, rfl, q1, q2⟩ := hs
      exact ⟨_, ho, _, _, _, _, rfl, rfl, SqL.of (hid1 g1), hidL q1, by rw [g2.len, q2.len]; exact h2.1, fun p hp => k _ _ _ cs1 (e1.trans (Ext.of (Same.new hp))) (w1.grow (Same.new hp)) (.lst (hid_new (w1.fresh hp)) ((g2.app q2).mono (new_mono hp))) h2.2⟩
    | _ => exact h2.elim
/-! ### {'k': e, ..}[f] -/
def dSel (ks : List Str) (ds : List DE) (dk : DE) : DE := fun ρ cs Ed Q => dAll ds (ρ.map (shSl 1)) ([] :: cs) (fun C cs' => Ed C (cs'.drop 1)) fun xs cs1 => match cs1 with
  | _ :: cs2 => (ks.Nodup ∧ ks.length < 15) ∧ dk ρ cs2 Ed fun y cs3 => match y with
    | .str s => ∃ m d, keyAt ks s = some m ∧ xs[m]? = some d ∧ Q d cs3
    | _ => False
  | [] => False
theorem q_sel {k0 : Nat} {keys : List (Option Expr)} {values : List Expr} {f : Expr} {pos p2 : Pos} {ks : List Str} {ds : List DE} {dk : DE} (hp : QP X E p2 keys values ks ds) (hr : Room k0 X.A) (hk : QE X E f dk) (hns : NoSl f := by exact fun _ _ => rfl) (hall : keys.all (·.isSome) = true := by rfl) (hlen : keys.length = values.length := by rfl) (h0 : keys ≠ [] := by intro z; cases z) (h15 : keys.length ≤ 15 := by decide) :
    QE X E (.Subscript (.Dict keys values p2) f pos) (dSel ks ds dk) := by
  have hu : X.A.units + 1 < cLine := by have := room100 hr; omega
  obtain ⟨trs, a1, a2⟩ := hp.ex
  obtain ⟨tk, k1, k2⟩ := hk.ex
  refine ⟨_, pe_dget hu (pe_disp a1 hall hlen h0 h15) k1 hns, fun as σ H ρ cs Ed Qd Q w ev ek h kk => fun p hp => ?_⟩
  have hf1 : ∀ {H' : Hp}, Nw H H' [⟨p, .dic []⟩] := Nw.dic hp
  have e0 : Ext as H (upd H p (.dK [])) := Ext.of (Same.new hp)
  have w0 := w.newk hp
  refine a2 (⟨p, .dic []⟩ :: as) σ _ _ _ _ _ _ w0 (Ev.sh hf1 ev e0) (fun C H2 cs2 e2 w2 q => ek C H2 _ (e0.cut (ex := [⟨p, .dic []⟩]) hf1 e2) (Wk.drop (ex := [⟨p, .dic []⟩]) w2) q) h fun vs H1 xs cs1 e1 w1 d1 hl h1 => ?_
  have e2 : Ext as H H1 := e0.cut (ex := [⟨p, .dic []⟩]) hf1 e1
  cases cs1 with
  | nil => exact h1.elim
  | cons c0 cs2 =>
    obtain ⟨⟨z1, z2⟩, h2⟩ := h1
    cases w1.cel with
    | cons c _ =>
      obtain ⟨vs0, c1, c2, _⟩ := c
      have e3 : H1 p = some (.dK []) := by
        rw [c1]
        cases vs0 with
        | nil => rfl
        | cons a b => simp at c2
      refine ⟨e3, kvz ks vs, rfl, by rw [kvz_len hl]; omega, ?_⟩
      rw [merge_kvz z1 hl (fun _ _ => rfl), List.nil_append]
      have w2 := w1.kind hl d1
      have e4 : Ext as H (upd H1 p (.dK (kvz ks vs))) := e0.cut (ex := [⟨p, .dic []⟩]) hf1 (e1.trans (ext_updK w1 (j := 0) rfl))
      have w3 : Wk X.K (upd H1 p (.dK (kvz ks vs))) as cs2 := Wk.drop (ex := [⟨p, .dic ks⟩]) w2
      have np : Vs (upd H1 p (.dK (kvz ks vs))) as p := Wk.apart (ex := [⟨p, .dic ks⟩]) w2 (j := 0) (f := ⟨p, .dic ks⟩) rfl
      have hd : DqAll X.K (hid (upd H1 p (.dK (kvz ks vs))) as) vs xs := by
        have d1' := d1
        rw [← hid_updK (o := .dK (kvz ks vs)) w1 (j := 0) rfl] at d1'
        exact d1'.mono (hid_app (ex := [⟨p, .dic []⟩]))
      refine k2 as σ _ ρ cs2 Ed _ _ w3 (ev.ext e4) (ek.ext e4) h2 fun u H3 y cs3 e5 w5 d5 h5 => ?_
      cases d5 <;> try exact h5.elim
      obtain ⟨m, d, q1, q2, q3⟩ := h5
      obtain ⟨v, g1, g2⟩ := (hd.mono e5.hid).get q2
      exact ⟨p, v, rfl, .inl ⟨_, .inr _, .inl (e5.sm p _ np upd_same), rfl, by rw [val_kvz q1 hl]; exact g1.symm⟩, kk v H3 d cs3 (e4.trans e5) w5 g2 q3⟩
/-! ### for a, (b, c) in .. -/
def putN (i : Nat) (is : List Nat) : Put := fun x ρ => match x with
  | .tuple [a, .tuple ds] => setAll is ds (ρ.set i (.d a))
  | _ => none
theorem putN_inv {i : Nat} {is : List Nat} {x : PyData} {ρ ρ' : List Sl} (h : putN i is x ρ = some ρ') : ∃ a ds, x = .tuple [a, .tuple ds] ∧ setAll is ds (ρ.set i (.d a)) = some ρ' := by
  unfold putN at h
  split at h
  · exact ⟨_, _, rfl, h⟩
  · cases h
theorem qg_n {e0 : Expr} {es : List Expr} {k k2 : Nat} {pos p2 : Pos} (i : Nat) (is : List Nat) (hc : X.calm = true) (hg0 : PG X e0 (gName i)) (hg : PGs X es (gNames is)) (hn : (assignEach es X.env).length = is.length := by rfl) (hst : (assignEach es X.env).findIdx? (·.1) = none := by rfl)
    (hm : (assignEach [e0, .Tuple es k2 p2] X.env).map (·.2) = assign e0 X.env :: (assignEach [.Tuple es k2 p2] X.env).map (·.2) := by rfl) (hm2 : (assignEach [.Tuple es k2 p2] X.env).map (·.2) = assign (.Tuple es k2 p2) X.env :: (assignEach [] X.env).map (·.2) := by rfl)
    (hn2 : (assignEach [e0, .Tuple es k2 p2] X.env).length = 2 := by rfl) (hst2 : (assignEach [e0, .Tuple es k2 p2] X.env).findIdx? (·.1) = none := by rfl) : QG X (.Tuple [e0, .Tuple es k2 p2] k pos) (putN i is) :=
  ⟨_, pg_tup hc (pgs_cons hg0 (pgs_cons (pg_tup hc hg hn hst) pgs_nil hm2) hm) hn2 hst2, fun as σ H ρ ρ' v x Q ev d h kk => by
    obtain ⟨a, ds, rfl, h⟩ := putN_inv h
    cases d with
    | tup g1 g2 =>
      cases g2 with
      | cons da g2 =>
        cases g2 with
        | cons db g2 =>
          cases g2
          cases db with
          | tup g3 g4 => exact ⟨_, _, rfl, hidT g1, rfl, _, _, rfl, _, _, rfl, _, _, rfl, hidT g3, by rw [g4.len]; exact setAll_len h, names_ok (ev_set (s := .d _) ev i ⟨_, rfl, da⟩) g4 h fun σ' ev' => ⟨rfl, kk σ' ev'⟩⟩⟩
def dForEn (da : DE) (pt : Put) (body : DS) : DS := fun Dd ρ cs => da ρ cs Dd.ex fun x cs1 => match x with
  | .list ds => dLp ds.length (fun t => .tuple [.int t, nth ds t]) pt body Dd ρ cs1
  | _ => False
theorem q_forEn {elts : List Expr} {kk : Nat} {tpos : Pos} {e : Expr} {body : List Stmt} {p p2 pos : Pos} {da : DE} {pt : Put} {db : DS} (hp : PassesOwn (model X.prog X.w) X.A X.env X.xe) (hc : X.calm = true) (hm : X.mg "enumerate" = none) (ha : QE X E e da) (hg : QG X (.Tuple elts kk tpos) pt) (hb : QSs X E body db)
    (hgl : Gl X "enumerate" := by rfl) (he0 : starEach [e] X.env = (false, eval e X.env) :: starEach [] X.env := by rfl) (hs : starEach [e] X.env = [(false, eval e X.env)] := by rfl) (hs2 : ∀ x, foldedSetIterable (.Call (.Name "enumerate" p) [e] [] p2) X.env x = pure x := by intro _; rfl) :
    QS X E (.For (.Tuple elts kk tpos) (.Call (.Name "enumerate" p) [e] [] p2) body [] pos) (dForEn da pt db) := by
  obtain ⟨ta, a1, a2⟩ := ha.ex
  obtain ⟨tgt, g1, g2⟩ := hg.ex
  obtain ⟨tb, b1, b2⟩ := hb.ex
  refine ⟨_, ps_for hp hc (pi_enum hgl hm (pa_cons a1 pa_nil he0) hs) g1 b1 hs2, fun as σ H ρ cs D Dd w ev ek h S => a2 as σ H ρ cs Dd.ex _ _ w ev ek h fun v H1 x cs1 e1 w1 d1 h1 => ?_⟩
  cases d1 <;> try exact h1.elim
  rename_i a xs ds q1 q2
  have hlen := q2.len
  refine ⟨a, xs, rfl, SqL.of (hid1 q1), ?_⟩
  obtain ⟨Inv, h0, hst, hd⟩ := h1
  refine ⟨fun t m σ' H' => m = ds.length - t ∧ t ≤ ds.length ∧ ∃ ρ' cs', Ext as H1 H' ∧ Wk X.K H' as cs' ∧ Ev X.K H' as σ' ρ' ∧ Inv t ρ' cs', ⟨ds.length, by simp, Nat.zero_le _, ρ, cs1, Ext.refl, w1, ev.ext e1, h0⟩, ?_⟩
  rintro t m σ2 H2 ⟨rfl, ht, ρ2, cs2, e2, w2, ev2, i2⟩
  have hL : SqL X.K H2 a xs := SqL.of (hid1 (e2.hid _ _ q1))
  have q2' : DqAll X.K (hid H2 as) xs ds := q2.mono e2.hid
  by_cases hlt : t < ds.length
  · have hx : t < xs.length := by omega
    refine .inr ⟨⟨xs, xs[t], hL, List.getElem?_eq_getElem hx⟩, fun σ' H' => ∃ ρ' cs', Ext as H1 H' ∧ Wk X.K H' as cs' ∧ Ev X.K H' as σ' ρ' ∧ Inv (t + 1) ρ' cs', fun σ' H' q => ⟨ds.length - (t + 1), by omega, rfl, hlt, q⟩, fun x H3 y => ?_⟩
    obtain ⟨T, z, rfl, hT, rfl, hz⟩ := y
    obtain ⟨dz, k1, k2⟩ := q2'.get' (hz xs hL)
    have en : nth ds t = dz := by unfold nth; rw [List.getD_eq_getElem?_getD, k1]; rfl
    obtain ⟨ρ3, p1, p2⟩ := hst t ρ2 cs2 hlt i2
    have dx : Dq X.K (hid (upd H2 T (.tup [.int (t : Nat), z])) as) (.ref T) (.tuple [.int t, nth ds t]) := by
      refine .tup (SqT.of (hid_new (w2.fresh hT))) (.cons (.int _) (.cons ?_ .nil))
      rw [en]
      exact k2.mono (new_mono hT)
    have w3 := w2.grow (Same.new (o := .tup [.int (t : Nat), z]) hT)
    have e3 : Ext as H1 (upd H2 T (.tup [.int (t : Nat), z])) := e2.trans (Ext.of (Same.new hT))
    refine g2 as σ2 _ ρ2 ρ3 _ _ _ (ev2.ext (Ext.of (Same.new hT))) dx p1 fun σ3 ev3 => ?_
    refine b2 as σ3 _ ρ3 cs2 _ { Dd with nx := fun k ρ' cs' => Inv (t + 1) (ρ'.map (disSl k cs')) (cs'.drop k), ct := fun k ρ' cs' => Inv (t + 1) (ρ'.map (disSl k cs')) (cs'.drop k), bk := Dd.nx } w3 ev3 ((ek.ext e1).ext e3) p2 ?_
    have S1 := (S.ext w1 e1).ext w3 e3
    exact ⟨fun ex σ4 H4 ρ4 cs4 hf e4 w4 ev4 q => ⟨_, _, e3.trans e4, w4.drop, ev4.diss w4, q⟩, S1.nx, fun ex σ4 H4 ρ4 cs4 hf e4 w4 ev4 q => ⟨_, _, e3.trans e4, w4.drop, ev4.diss w4, q⟩, S1.rt, S1.rf⟩
  · have e : t = ds.length := by omega
    subst e
    exact .inl ⟨⟨xs, hL, by omega⟩, S.nx [] σ2 H2 ρ2 cs2 Nw.nil (e1.trans e2) w2 ev2 (hd ρ2 cs2 i2)⟩
end
end Kp

namespace Kp
open PySem PySem.Spec PyProof.Rows L2
section
variable {X : Cx} {E : XK} {K : Frag}
/-! ### == [] and != [] of a list of any data -/
def rEqLN (K : Frag) (k : Bool) : R2 := fun x y H Q => ∃ l b v xs, x = .ref l ∧ y = .ref b ∧ SqL K H l (v :: xs) ∧ SqL K H b [] ∧ Q (.bl k) H
theorem sizes {pins : List (Addr × Obj)} {σ : L2.St} {H : Hp} {s : Shared} {l b : Addr} {v : V} {xs : List V} (I : L2.Inv X pins σ H s) (h1 : SqL X.K H l (v :: xs)) (h2 : SqL X.K H b []) : ∃ i j : List Value, s.heap.IsList l i.toArray ∧ s.heap.IsList b j.toArray ∧ (i.toArray.size != j.toArray.size) = true := by
  obtain ⟨its, vl, p, _⟩ := I.list h1
  obtain ⟨its2, vl2, p2, _⟩ := I.list h2
  cases vl2
  cases vl with
  | cons r t => exact ⟨_, _, p.isList, p2.isList, by simp⟩
theorem op_eqLN (hu : X.A.units + 64 < cLine) : OpR X (compareOp .Eq) (fun x y H Q => rEqD X.K x y H Q ∨ rEqLN X.K false x y H Q) := OpR.or (op_eqD hu) fun pins s σ H x y v u Q I rx ry h => by
  obtain ⟨l, b, w, xs, rfl, rfl, h1, h2, q⟩ := h
  cases (show v = _ from rx)
  cases (show u = _ from ry)
  obtain ⟨i, j, q1, q2, q3⟩ := sizes I h1 h2
  exact SeqAt.RcAt.lists_lengths q1 q2 q3 (by omega) X.prog X.w X.xe _ ⟨.bl false, H, I, rfl, q⟩
theorem op_neLN (hu : X.A.units + 64 < cLine) : OpR X (compareOp .NotEq) (fun x y H Q => rNeD X.K x y H Q ∨ rEqLN X.K true x y H Q) := OpR.or (op_neD hu) fun pins s σ H x y v u Q I rx ry h => by
  obtain ⟨l, b, w, xs, rfl, rfl, h1, h2, q⟩ := h
  cases (show v = _ from rx)
  cases (show u = _ from ry)
  obtain ⟨i, j, q1, q2, q3⟩ := sizes I h1 h2
  exact SeqAt.RcNeAt.lists_lengths q1 q2 q3 (by omega) X.prog X.w X.xe _ ⟨.bl true, H, I, rfl, q⟩
def dEqLN (k : Bool) : R2D := fun x y Q => match x, y with
  | .list ds, .list [] => Q (.bool (if k then !ds.isEmpty else ds.isEmpty))
  | _, _ => False
theorem lst_nil {as : List CA} {H : Hp} {y : PyData} {u : V} (hy : Dq K (hid H as) u y) (e : y = .list []) : ∃ b, u = .ref b ∧ SqL K H b [] := by
  subst e
  cases hy with
  | lst h a => cases a; exact ⟨_, rfl, SqL.of (hid1 h)⟩
theorem sr_eqLN : SR K (fun x y H Q => rEqD K x y H Q ∨ rEqLN K false x y H Q) (dEqLN false) := fun as H cs v u x y Qd Q w hx hy h k => by
  cases hx with
  | lst h1 a1 =>
    cases y with
    | list es =>
      cases es with
      | nil =>
        obtain ⟨b, rfl, h2⟩ := lst_nil hy rfl
        cases a1 with
        | nil => exact .inl ⟨.list [], .list [], .lst (SqL.of (hid1 h1)) .nil, .lst h2 .nil, rfl, rfl, k _ H _ (Same.refl H) (.bl _) h⟩
        | cons d t => exact .inr ⟨_, b, _, _, rfl, rfl, SqL.of (hid1 h1), h2, k _ H _ (Same.refl H) (.bl _) h⟩
      | cons a b => exact h.elim
    | _ => exact h.elim
  | _ => exact h.elim
theorem sr_neLN : SR K (fun x y H Q => rNeD K x y H Q ∨ rEqLN K true x y H Q) (dEqLN true) := fun as H cs v u x y Qd Q w hx hy h k => by
  cases hx with
  | lst h1 a1 =>
    cases y with
    | list es =>
      cases es with
      | nil =>
        obtain ⟨b, rfl, h2⟩ := lst_nil hy rfl
        cases a1 with
        | nil => exact .inl ⟨.list [], .list [], .lst (SqL.of (hid1 h1)) .nil, .lst h2 .nil, rfl, rfl, k _ H _ (Same.refl H) (.bl _) h⟩
        | cons d t => exact .inr ⟨_, b, _, _, rfl, rfl, SqL.of (hid1 h1), h2, k _ H _ (Same.refl H) (.bl _) h⟩
      | cons a b => exact h.elim
    | _ => exact h.elim
  | _ => exact h.elim
end
end Kp

namespace Kp
open PySem PySem.Spec PyProof.Rows L2
section
variable {X : Cx} {E : XK} {K : Frag}
/-! ### for at in range(a, b, -1) -/
theorem it_down {as : List CA} {H : Hp} (lo : Int) (n : Nat) : ItOk K as H (Itc lo (-1) n) n (fun t => .int (lo - t)) := fun ex H' hf e =>
  ⟨fun i hi => ⟨hi, fun x H2 y => ⟨y.1, by rw [y.2, show lo + (i : Nat) * (-1 : Int) = lo - (i : Int) by omega]; exact .int _⟩⟩, Nat.le_refl n⟩
def iR3 (da : DA) : DI := fun ρ cs Ed Q => da ρ cs Ed fun ss cs1 => match allD ss with
  | some [.int a, .int b, .int c] => c = -1 ∧ (-(2 ^ 62) ≤ a ∧ a < 2 ^ 62 ∧ -(2 ^ 62) ≤ b ∧ b < 2 ^ 62) ∧ Q (a - b).toNat (fun t => .int (a - t)) cs1
  | _ => False
theorem qi_r3 {tg a b c : Expr} {p p2 : Pos} {da : DA} (hm : X.mg "range" = none) (ha : QA X E [a, b, c] da) (hgl : Gl X "range" := by rfl) (hs : starEach [a, b, c] X.env = (false, eval a X.env) :: starEach [b, c] X.env := by rfl) (hpl : (backTo p2 (starEach [b, c] X.env)).any (·.1) = false := by rfl) :
    QI X E tg (.Call (.Name "range" p) [a, b, c] [] p2) (iR3 da) := by
  obtain ⟨ta, a1, a2⟩ := ha.ex
  refine ⟨_, pi_range3 hgl hm a1 hs hpl, fun as σ H ρ cs Ed Qd R w ev ek h k => a2 as σ H ρ cs Ed _ _ w ev ek h fun vs H1 ss cs1 e1 w1 d1 h1 => ?_⟩
  cases q : allD ss with
  | none => rw [q] at h1; exact h1.elim
  | some ds =>
    rw [q] at h1
    have d2 := allD_ok d1 q
    match ds, d2, h1 with
    | [.int n, .int m, .int l], .cons (.int _) (.cons (.int _) (.cons (.int _) .nil)), h1 =>
      obtain ⟨rfl, ⟨g1, g2, g3, g4⟩, g5⟩ := h1
      exact ⟨n, m, -1, _, rfl, RgC.neg g1 g2 g3 g4, k _ H1 _ _ cs1 e1 w1 (it_down n _) g5⟩
/-! ### f([..], e, ..): a new list handed on as a cell -/
def dCallN (f : FD) (d : DL) (dr : DA) : DE := fun ρ cs Ed Q => d ρ cs Ed fun ds cs1 => dr (ρ.map (shSl 1)) (ds :: cs1) (fun C cs => Ed C (cs.drop 1)) fun ss cs2 => f (.c 0 :: ss) cs2 (fun C cs => Ed C (cs.drop 1)) fun x cs3 => Q x (cs3.drop 1)
theorem q_callN {k : Nat} {name : Str} {ps : List Str} {f : FD} {e : Expr} {es : List Expr} {p pos : Pos} {d : DL} {dr : DA} (F : Cal X.prog X.w X.K X.mg X.base k name ps f) (hr : Room k X.A) (hx : Passes (L2.CX X.prog X.w) X E) (ha : QN X E e d) (hb : QA X E es dr)
    (hg : Gl X name := by rfl) (hdb : (name == ("__debug__" : Str)) = false := by decide) (he : starEach (e :: es) X.env = (false, eval e X.env) :: starEach es X.env := by rfl) (hpl : (backTo pos (starEach es X.env)).any (·.1) = false := by rfl) :
    QE X E (.Call (.Name name p) (e :: es) [] pos) (dCallN f d dr) := by
  obtain ⟨a, fd, h1, h2, h3, h4⟩ := F.ex
  obtain ⟨ta, a1, a2⟩ := ha.ex
  obtain ⟨tb, b1, b2⟩ := hb.ex
  refine ⟨_, pe_call h3 hr hg h1 h2 h4 .nil hx (pa_cons a1 b1 he) hdb he hpl, fun as σ H ρ cs Ed Qd Q w ev ek h k => ?_⟩
  refine a2 as σ H ρ cs Ed _ _ w ev ek h fun p H1 ds cs1 e1 hp w1 q1 => ?_
  have hf : ∀ {H' : Hp}, Nw H H' [cl p] := Nw.lst hp
  have ek1 : EK X.K E (fun C cs => Ed C (cs.drop 1)) (cl p :: as) H1 := fun C H2 cs2 e2 w2 q => ek C H2 (cs2.drop 1) (Ext.cut (ex := [cl p]) hf e1 e2) (Wk.drop (ex := [cl p]) w2) q
  refine b2 (cl p :: as) σ H1 _ _ _ _ _ w1 (Ev.sh hf ev e1) ek1 q1 fun vs H2 ss cs2 e2 w2 d2 h2 => ?_
  refine ⟨cl p :: as, .c 0 :: ss, cs2, fun C cs => Ed C (cs.drop 1), fun x cs => Qd x (cs.drop 1), w2, ?_, ek1.ext e2, h2, fun v H3 x cs3 e3 w3 d3 h3 => ?_⟩
  · rw [List.append_nil]
    exact .cons ⟨⟨p, rfl, rfl⟩, fun z => by cases z⟩ d2
  · exact k v H3 x (cs3.drop 1) (Ext.cut (ex := [cl p]) hf e1 (e2.trans e3)) (Wk.drop (ex := [cl p]) w3) (d3.mono hid_cons) h3
end
end Kp

namespace Kp
open PySem PySem.Spec PyProof.Rows L2
/-! ### what is known of a class of errors -/
structure XcF (K : Frag) (mg : Str → Option Value) (nm : Str) : Prop where
  g : mg nm = some (.ref (He.ga K nm))
  e : PySem.W.excIn K (He.ga K nm) He.veBase "ValueError.__new__" = true
  k : PySem.W.keepIn K (.ref (He.ga K nm)) = true
  s : PySem.W.subIn K (.ref (He.ga K nm)) (.type "BaseException") = some true
  t : PySem.W.typeIn K (.ref (He.ga K nm)) = some (.type "type")
section
variable {X : Cx} {E : XK} {K : Frag}
/-! ### f'..' of numbers -/
abbrev DF := List Sl → CS → XD → (CS → Prop) → Prop
def dFnil : DF := fun _ cs _ Q => Q cs
def dFint (da : DE) (r : DF) : DF := fun ρ cs Ed Q => da ρ cs Ed fun x cs1 => match x with
  | .int i => i.natAbs < 10 ^ 12 ∧ r ρ cs1 Ed Q
  | _ => False
structure QF (X : Cx) (E : XK) (es : List Expr) (n : Nat) (d : DF) : Prop where
  ex : ∃ ts, PJ X es ts ∧ ∀ (as : List CA) (σ : L2.St) (H : Hp) (ρ : List Sl) (cs : CS) (Ed : XD) (Qd : CS → Prop) (Q : Str → Hp → Prop) (acc : Str), acc.length + n ≤ sizeLine → Wk X.K H as cs → Ev X.K H as σ ρ → EK X.K E Ed as H → d ρ cs Ed Qd →
    (∀ out H' cs', Ext as H H' → Wk X.K H' as cs' → Qd cs' → Q out H') → tJs ts acc σ H Q
theorem app_len (a b : Str) : (a ++ b).length = a.length + b.length := by
  show (a.cps ++ b.cps).size = _
  rw [Array.size_append]; rfl
theorem qf_nil : QF X E [] 0 dFnil := ⟨_, .nil, fun as σ H ρ cs Ed Qd Q acc hz w ev ek h k => k acc H cs Ext.refl w h⟩
theorem qf_str {s : Str} {j : Nat} {p : Pos} {es : List Expr} {n : Nat} {d : DF} (h : QF X E es n d) : QF X E (.Constant (.str s) j p :: es) (s.length + n) d := by
  obtain ⟨ts, h1, h2⟩ := h.ex
  refine ⟨_, .cons pe_str h1, fun as σ H ρ cs Ed Qd Q acc hz w ev ek hd k => ⟨s, rfl, by rw [app_len]; omega, ?_⟩⟩
  exact h2 as σ H ρ cs Ed Qd Q (acc ++ s) (by rw [app_len]; omega) w ev ek hd k
theorem int_len {i : Int} (h : i.natAbs < 10 ^ 12) : Str.length (toString i : String) ≤ 13 := PyData.shown_int_le h
theorem qf_int {e : Expr} {p : Pos} {da : DE} {es : List Expr} {n : Nat} {d : DF} (ha : QE X E e da) (h : QF X E es n d) : QF X E (.FormattedValue e (-1) none p :: es) (13 + n) (dFint da d) := by
  obtain ⟨ts, h1, h2⟩ := h.ex
  obtain ⟨ta, a1, a2⟩ := ha.ex
  refine ⟨_, .cons (pe_fmt a1) h1, fun as σ H ρ cs Ed Qd Q acc hz w ev ek hd k => a2 as σ H ρ cs Ed _ _ w ev ek hd fun v H1 x cs1 e1 w1 d1 q1 => ?_⟩
  cases d1 <;> try exact q1.elim
  obtain ⟨q1, q2⟩ := q1
  have hl := int_len q1
  refine .inr ⟨_, rfl, log_small q1, _, rfl, by rw [app_len]; omega, ?_⟩
  exact h2 as σ H1 ρ cs1 Ed Qd Q _ (by rw [app_len]; omega) w1 (ev.ext e1) (ek.ext e1) q2 fun out H2 cs2 e2 w2 q => k out H2 cs2 (e1.trans e2) w2 q
def dFs (d : DF) : DE := fun ρ cs Ed Q => d ρ cs Ed fun cs1 => ∀ s, Q (.str s) cs1
theorem q_fs {v1 v2 : Expr} {rest : List Expr} {n : Nat} {d : DF} {pos : Pos} (h : QF X E (v1 :: v2 :: rest) n d) (hz : n ≤ 100000 := by decide) : QE X E (.JoinedStr (v1 :: v2 :: rest) pos) (dFs d) := by
  obtain ⟨ts, h1, h2⟩ := h.ex
  refine ⟨_, pe_joined h1, fun as σ H ρ cs Ed Qd Q w ev ek hd k => h2 as σ H ρ cs Ed _ _ Str.empty (le_line (by show 0 + n ≤ 100000; omega)) w ev ek hd fun out H' cs' e1 w1 q1 => ?_⟩
  exact k _ H' _ cs' e1 w1 (.str out) (q1 out)
/-! ### raise C(e) -/
def dRaise (nm : Str) (da : DE) : DS := fun Dd ρ cs => da ρ cs Dd.ex fun _ cs1 => Dd.ex nm cs1
theorem q_raise {nm : Str} {e : Expr} {p p2 pos : Pos} {da : DE} (F : XcF X.K X.mg nm) (hc : X.calm = true) (tk : Takes X (fun cls d _ H => E cls d H)) (ha : QE X E e da) (hg : Gl X nm := by rfl) (hs : starEach [e] X.env = (false, eval e X.env) :: starEach [] X.env := by rfl) (hdb : (nm == ("__debug__" : Str)) = false := by decide) (hpl : codeE nm = none := by decide +kernel) :
    QS X E (.Raise (some (.Call (.Name nm p) [e] [] p2)) none pos) (dRaise nm da) := by
  obtain ⟨ta, a1, a2⟩ := ha.ex
  refine ⟨_, ps_raise hc tk (SkE.pmk_own1 PySem.F.excBase_ValueError F.e F.g F.k (raises_own F.s F.t) hg a1 hs hdb), fun as σ H ρ cs D Dd w ev ek h S => a2 as σ H ρ cs Dd.ex _ _ w ev ek h fun v H1 x cs1 e1 w1 d1 q1 => ?_⟩
  have z := ek nm H1 cs1 e1 w1 q1 none ((exD_plain hpl).mpr rfl)
  rw [exN_plain hpl] at z
  exact z
end
end Kp

namespace Kp
open PySem PySem.Spec PyProof.Rows L2
section
variable {X : Cx} {E : XK} {K : Frag}
/-! ### isinstance of a caught error -/
def rIsX (K : Frag) : List V → Hp → VK → Prop := fun xs H Q => ∃ (a D : Addr) (oe : Obj) (c : V) (cv : Value) (b : Bool), xs = [.ref a, c] ∧ H a = some (exT a oe) ∧ Zc (.ref D) none oe ∧ (∃ vs, oe.data = .fields vs) ∧ ExcC K D ∧ (∀ u, RelV c u → u = cv) ∧ PySem.W.kitOne K (.ref D) cv = some b ∧ Q (.bl b) H
def rIsXT (K : Frag) : List V → Hp → VK → Prop := fun xs H Q => ∃ (a D tp : Addr) (oe : Obj) (cs : List Addr) (b : Bool), xs = [.ref a, .ref tp] ∧ H a = some (exT a oe) ∧ Zc (.ref D) none oe ∧ (∃ vs, oe.data = .fields vs) ∧ ExcC K D ∧ H tp = some (.tup (cs.map V.ref)) ∧ PySem.W.kitAny K (.ref D) (cs.map Value.ref) = some b ∧ Q (.bl b) H
theorem inst_of {h : Heap} {a D : Addr} {oe : Obj} (hz : Zc (.ref D) none oe) (hf : ∃ vs, oe.data = .fields vs) (hg : h.get? a = some oe) : PySem.W.InstAt h a oe D none := by
  obtain ⟨vs, hv⟩ := hf
  rcases oe with ⟨oc, od, ob, os⟩
  obtain ⟨h1, h2⟩ := hz
  simp only [] at h1 h2 hv
  subst h1; subst h2; subst hv
  exact ⟨hg, rfl, rfl, trivial⟩
theorem kitE_of {D : Addr} (C : ExcC K D) (a : Addr) (oe : Obj) : PySem.W.KitX K (.ref a) (.ref D) (fun h => PySem.W.InstAt h a oe D none) :=
  PySem.W.handS_kitx_exc C.hg C.hk C.hs C.hd C.ha C.hn C.ht C.hm
theorem refs_rel : ∀ {cs : List Addr} {its : List Value}, Vals (cs.map V.ref) its → its = cs.map Value.ref
  | [], _, .nil => rfl
  | _ :: _, _, .cons r t => by
    cases r
    rw [refs_rel t]; rfl
theorem call_isX : CallR X (.builtin "isinstance") (rIsX X.K) := by
  intro pins s σ H xs us Q I r h
  obtain ⟨a, D, oe, c, cv, b, rfl, ha, hz, hf, C, hcv, e, q⟩ := h
  match us, r with
  | [_, u2], .cons r1 (.cons r2 .nil) =>
    cases r1
    obtain rfl := hcv _ r2
    exact PySem.W.kia_one (kitE_of C a oe) I.kIn (inst_of hz hf (I.hok a _ ha).1) e (fun z => nomatch z) fun tk => ⟨.bl b, H, I.kept (t' := tk) fun _ _ z => z, rfl, q⟩
theorem call_isXT : CallR X (.builtin "isinstance") (rIsXT X.K) := by
  intro pins s σ H xs us Q I r h
  obtain ⟨a, D, tp, oe, cs, b, rfl, ha, hz, hf, C, ht, e, q⟩ := h
  match us, r with
  | [_, _], .cons r1 (.cons r2 .nil) =>
    cases r1
    cases r2
    obtain ⟨_, its, rl, ⟨oc, od, ob, os⟩, g1, g2, n, g3⟩ := I.hok tp _ ht
    simp only [] at g2 g3
    subst g2; subst g3
    obtain rfl := refs_rel rl
    exact PySem.W.kia_tup (kitE_of C a oe) I.kIn (inst_of hz hf (I.hok a _ ha).1) g1 e (fun z => nomatch z) fun tk => ⟨.bl b, H, I.kept (t' := tk) fun _ _ z => z, rfl, q⟩
/-- isinstance(x, C), x a name whose slot is a caught error of one of the classes ds -/
def dIsX (i : Nat) (ds : List Str) (g : Str → Bool) : DE := fun ρ cs _ Q => match ρ[i]? with
  | some (.x d) => d ∈ ds ∧ Q (.bool (g d)) cs
  | _ => False
theorem slot_x {as : List CA} {σ : L2.St} {H : Hp} {ρ : List Sl} {cs : CS} {i : Nat} {ds : List Str} {g : Str → Bool} {Ed : XD} {Q : PyData → CS → Prop} (ev : Ev K H as σ ρ) (h : dIsX i ds g ρ cs Ed Q) (hpl : ∀ d ∈ ds, codeE d = none) :
    ∃ d a oe, σ[i]? = some (some (.ref a)) ∧ hid H as a = some (exT a oe) ∧ Zc (.ref (He.ga K d)) none oe ∧ (∃ vs, oe.data = .fields vs) ∧ d ∈ ds ∧ Q (.bool (g d)) cs := by
  unfold dIsX at h
  cases q : ρ[i]? with
  | none => rw [q] at h; exact h.elim
  | some sl =>
    rw [q] at h
    obtain ⟨o, ho, hs⟩ := pr_get ev q
    cases sl with
    | x d =>
      obtain ⟨a, oe, rfl, h2, ⟨dd, h3, h5⟩, h4⟩ := hs
      have q2 := hpl d h.1
      rw [exN_plain q2] at h3
      obtain rfl := (exD_plain q2).mp h5
      exact ⟨d, a, oe, ho, h2, h3, h4, h.1, h.2⟩
    | _ => exact h.elim
theorem q_isX {a b : Expr} {p pos : Pos} {c : V} {cv : Value} (i : Nat) (ds : List Str) (g : Str → Bool) (ha : PE X a (tVar i)) (hb : PE X b (tC c)) (hcv : ∀ u, RelV c u → u = cv) (hC : ∀ d ∈ ds, ExcC X.K (He.ga X.K d) ∧ PySem.W.kitOne X.K (.ref (He.ga X.K d)) cv = some (g d)) (hi : X.mg "isinstance" = none) (hg : Gl X "isinstance" := by rfl)
    (hs : starEach [b] X.env = (false, eval b X.env) :: starEach [] X.env := by rfl) (hs2 : starEach [a, b] X.env = (false, eval a X.env) :: starEach [b] X.env := by rfl) (hpl : (backTo pos (starEach [b] X.env)).any (·.1) = false := by rfl) (hcd : ∀ d ∈ ds, codeE d = none := by decide +kernel) : QE X E (.Call (.Name "isinstance" p) [a, b] [] pos) (dIsX i ds g) := by
  refine ⟨_, pe_callB call_isX hg hi (by decide +kernel) (pa_cons ha (pa_cons hb pa_nil hs) hs2) (he := hs2) (hpl := hpl), fun as σ H ρ cs Ed Qd Q w ev ek h k => ?_⟩
  obtain ⟨d, a, oe, ho, h2, h3, h4, h5, h6⟩ := slot_x ev h hcd
  obtain ⟨z1, z2⟩ := hC d h5
  exact ⟨_, ho, a, _, oe, c, cv, _, rfl, hid1 h2, h3, h4, z1, hcv, z2, k _ H _ cs Ext.refl w (.bl _) h6⟩
/-- names of classes, one behind the other -/
structure NmL (X : Cx) (es : List Expr) (cs : List Str) : Prop where
  ex : ∃ t, PA X es t ∧ ∀ σ H Q, Q ((cs.map (He.ga X.K)).map V.ref) H → t σ H Q
theorem nm_nil : NmL X [] [] := ⟨_, pa_nil, fun _ _ _ h => h⟩
theorem nm_cons {c : Str} {p : Pos} {es : List Expr} {cs : List Str} (F : X.mg c = some (.ref (He.ga X.K c))) (h : NmL X es cs) (hg : Gl X c := by rfl) (hdb : (c == ("__debug__" : Str)) = false := by decide) (hs : starEach (.Name c p :: es) X.env = (false, eval (.Name c p) X.env) :: starEach es X.env := by rfl) : NmL X (.Name c p :: es) (c :: cs) := by
  obtain ⟨t, h1, h2⟩ := h.ex
  exact ⟨_, pa_cons (pe_glob (v := .ref (He.ga X.K c)) hg F rfl hdb) h1 hs, fun σ H Q q => h2 σ H _ q⟩
theorem q_isXT {a : Expr} {es : List Expr} {n : Nat} {p p2 pos : Pos} {cl : List Str} (i : Nat) (ds : List Str) (g : Str → Bool) (ha : PE X a (tVar i)) (hb : NmL X es cl) (hC : ∀ d ∈ ds, ExcC X.K (He.ga X.K d) ∧ PySem.W.kitAny X.K (.ref (He.ga X.K d)) ((cl.map (He.ga X.K)).map Value.ref) = some (g d)) (hi : X.mg "isinstance" = none) (hl : cl.length ≤ 100 := by decide) (hg : Gl X "isinstance" := by rfl)
    (hs : starEach [.Tuple es n p2] X.env = (false, eval (.Tuple es n p2) X.env) :: starEach [] X.env := by rfl) (hs2 : starEach [a, .Tuple es n p2] X.env = (false, eval a X.env) :: starEach [.Tuple es n p2] X.env := by rfl) (hpl : (backTo pos (starEach [.Tuple es n p2] X.env)).any (·.1) = false := by rfl) (hcd : ∀ d ∈ ds, codeE d = none := by decide +kernel) : QE X E (.Call (.Name "isinstance" p) [a, .Tuple es n p2] [] pos) (dIsX i ds g) := by
  obtain ⟨t, b1, b2⟩ := hb.ex
  refine ⟨_, pe_callB call_isXT hg hi (by decide +kernel) (pa_cons ha (pa_cons (pe_tup b1) pa_nil hs) hs2) (he := hs2) (hpl := hpl), fun as σ H ρ cs Ed Qd Q w ev ek h k => ?_⟩
  obtain ⟨d, a, oe, ho, h2, h3, h4, h5, h6⟩ := slot_x ev h hcd
  obtain ⟨z1, z2⟩ := hC d h5
  refine ⟨_, ho, b2 σ H _ ⟨le_line (by rw [List.length_map, List.length_map]; omega), fun q hq => ?_⟩⟩
  have sm := Same.new (o := .tup ((cl.map (He.ga X.K)).map V.ref)) hq
  exact ⟨a, _, q, oe, _, _, rfl, sm _ _ (hid1 h2), h3, h4, z1, upd_same, z2, k _ _ _ cs (Ext.of sm) (w.grow sm) (.bl _) h6⟩
end
end Kp

namespace Kp
open PySem PySem.Spec PyProof.Rows L2
/-! ### defs that may be called whatever error is handled -/
structure FnT (P : Program) (w : World) (K : Frag) (mg : Str → Option Value) (base : Heap) (C : CXT) (k : Nat) (f : Addr) (fd : FuncData) (ps : List Str) (sp : Sp) : Prop where
  len : ∀ vs H Q E, sp vs H Q E → vs.length = ps.length
  run : ∀ (A : Around) (outer : List Env) (s : Shared) (H : Hp) (args : Args) (us : List Value) (vs : List V) (Q : VK) (E : XK), L2H.RoomH k A → Env0 P w K mg base A outer s H → BindsTo s fd args (ps.zip us) → Vals vs us → sp vs H Q E →
    codeAny (model P w) A (.call (.ref f) args) (CR C outer P w H s Q E) s
abbrev cxT (C : CXT) (P : Program) (w : World) (K : Frag) (mg : Str → Option Value) (base : Heap) (N : List Str) (qual : Str) (scope : Scope) (f : Addr) (cd : Value) (A : Around) (outer : List Env) (s : Shared) (H : Hp) (E : XK) : Cx :=
  { cxOf C P w K mg base N qual scope f cd A outer s H E with calm := false }
theorem inv_startT {C : CXT} {P : Program} {w : World} {K : Frag} {mg : Str → Option Value} {base : Heap} {N ps : List Str} {qual : Str} {scope : Scope} {f : Addr} {cd : Value} {A : Around} {outer : List Env} {s s1 : Shared} {H : Hp} {E : XK} {us : List Value} {vs : List V}
    (S : FnScope N ps scope) (e0 : Env0 P w K mg base A outer s H) (hl : vs.length = ps.length) (r : Vals vs us)
    (x : InCallC s s.heap.objs.size (bindL (envOfC qual scope s.heap.objs.size f cd).kindOf (ps.zip us) fun _ => none) (cellsFrom (s.heap.objs.size + 1) scope.names []) (bindC (envOfC qual scope s.heap.objs.size f cd).kindOf (ps.zip us) fun _ => none) s1) :
    L2.Inv (cxT C P w K mg base N qual scope f cd A outer s H E) [] (L2.start N vs) H s1 := by
  have J := inv_start (CX := C) (A := { A with handled := none }) (outer := outer) (E := E) (f := f) (cd := cd) (qual := qual) S rfl ⟨e0.frames, e0.mod, e0.bs, e0.bsz, e0.funs, e0.frf, e0.hok, e0.bare⟩ hl r x
  have O := J.ok
  exact ⟨⟨O.mod, O.kind, O.glob, O.blt, O.above,
    O.inj, O.has, O.cab, nofun, O.frames,
    O.stk, O.exf, O.bs, O.bsz, O.noex, O.exfs, O.funs, O.frf⟩,
    J.os, J.bare, J.base, J.loc, J.cell, J.free,
    J.freeC, J.pin, J.hok, J.len⟩
theorem ft_of {C : CXT} {P : Program} {w : World} {K : Frag} {mg : Str → Option Value} {base : Heap} {k : Nat} {f : Addr} {fd : FuncData} {x qual : Str} {params : Arguments} {body : List Stmt} {scope : Scope} {dvs : List V} {kws : List (Str × V)} {N ps : List Str} {sp : Sp}
    (F : FunD K x qual params body scope dvs kws f fd) (S : FnScope N ps scope) (len : ∀ vs H Q E, sp vs H Q E → vs.length = ps.length)
    (hb : ∀ (cdv : Value) (A : Around) (outer : List Env) (s : Shared) (H : Hp) (vs : List V) (Q : VK) (E : XK), L2H.RoomH k (A.deeper (envOfC qual scope s.heap.objs.size f cdv)) → sp vs H Q E →
      ∃ t, PSs (cxT C P w K mg base N qual scope f cdv A outer s H E) body t ∧ t { nx := fun _ H' => Q .non H', rt := Q } (L2.start N vs) H) : FnT P w K mg base C (k + 1) f fd ps sp := by
  obtain ⟨z1, z2, z3, z4, z5, z6, z7, cdv, z8, z9, rfl, at_, code, -, -⟩ := F.ex
  refine ⟨len, fun A outer s H args us vs Q E room e0 bind rel prom => ?_⟩
  have len' := len _ _ _ _ prom
  have kin : K.In s.heap := e0.mod.kin.keeps fun b o e => (e0.bs b o e).1
  have nolim : s.heap.NoLimit := e0.mod.nolimit.keeps fun b o e => (e0.bs b o e).1
  have kinds : ∀ y ∈ ps.zip us, scope.names.lookup y.1 = some .local ∨ (scope.names.lookup y.1 = some .cell ∧ ((cellsFrom (s.heap.objs.size + 1) scope.names []).lookup y.1).isSome = true) := by
    rintro ⟨n, v⟩ hy
    rcases S.par n (List.of_mem_zip hy).1 with q | q
    · exact .inl q
    · exact .inr ⟨q, PySem.W.cellsFrom_some _ _ _ (.inl q)⟩
  refine codeAny_call_function room.depth (kin _ _ at_) rfl S.co S.gen rfl (PySem.W.codeRec_of kin code) (bind _ _ _ _ ?_)
  refine wpAny_newFunctionEnv_cells S.kind kinds fun env henv s1 made => ?_
  subst henv
  refine ⟨nolim.keeps made.toInCall.keep, codeAny_func ?_⟩
  obtain ⟨t, ht, ht2⟩ := hb cdv A outer s H vs Q E (room.deeper _) prom
  have I := inv_startT (C := C) (E := E) (f := f) (cd := cdv) (qual := qual) S e0 len' rel made
  refine wpAny_mono (ht.run [] s1 (L2.start N vs) H _ I ht2) (fun fl s' ends => ?_) fun e s' ends => ends
  cases fl with
  | ret u =>
    obtain ⟨v, σ', H', J, rv, q⟩ := ends
    exact ⟨v, H', J.os, J.bare, J.base, J.hok, rv, q⟩
  | next =>
    obtain ⟨σ', H', J, q⟩ := ends
    exact ⟨V.non, H', J.os, J.bare, J.base, J.hok, rfl, q⟩
  | brk =>
    obtain ⟨_, _, _, q⟩ := ends
    exact q.elim
  | cont =>
    obtain ⟨_, _, _, q⟩ := ends
    exact q.elim
structure CalT (P : Program) (w : World) (K : Frag) (mg : Str → Option Value) (base : Heap) (k : Nat) (name : Str) (ps : List Str) (f : FD) : Prop where
  ex : ∃ (a : Addr) (fd : FuncData), mg name = some (.ref a) ∧ PySem.W.keepIn K (.ref a) = true ∧ FnT P w K mg base (L2.CX P w) k a fd ps (spD K f) ∧ Binds K fd ps []
section
variable {X : Cx} {E : XK}
theorem q_callT {k : Nat} {name : Str} {ps : List Str} {f : FD} {e : Expr} {es : List Expr} {p pos : Pos} {da : DA} (F : CalT X.prog X.w X.K X.mg X.base k name ps f) (hr : L2H.RoomH k X.A) (hx : Passes (L2.CX X.prog X.w) X E) (ha : QA X E (e :: es) da)
    (hg : Gl X name := by rfl) (hdb : (name == ("__debug__" : Str)) = false := by decide) (he : starEach (e :: es) X.env = (false, eval e X.env) :: starEach es X.env := by rfl) (hpl : (backTo pos (starEach es X.env)).any (·.1) = false := by rfl) :
    QE X E (.Call (.Name name p) (e :: es) [] pos) (dCall f da) := by
  obtain ⟨a, fd, h1, h2, h3, h4⟩ := F.ex
  obtain ⟨ta, a1, a2⟩ := ha.ex
  refine ⟨_, ⟨fun pins s σ H Q I h => ?_⟩, se_call a2⟩
  refine wpAny_Call_Name_kw (ld_glob I hg h1 ?_ hdb)
  refine PySem.W.callWith_K (h₀ := X.base) I.ok.mod.kin h2 (thn (a1.run pos pins s σ H _ I h) fun us s1 ⟨vs, H1, I1, r, q⟩ => ⟨I1.kIn, ?_⟩) he hpl
  have hl : (us ++ []).length = ps.length := by
    rw [List.append_nil, ← r.length]
    have z := h3.len _ _ _ _ q
    rw [List.append_nil] at z
    exact z
  have r2 : Vals (vs ++ []) (us ++ []) := by rw [List.append_nil, List.append_nil]; exact r
  refine wpAny_call (codeAny_mono (h3.run X.A X.stack s1 H1 ⟨us, []⟩ (us ++ []) (vs ++ []) Q E hr I1.env0 (h4 s1 us I1.kIn hl) r2 q) fun res s' hq => ?_)
  cases res with
  | error e => exact hx pins σ H1 s1 e s' I1 hq
  | ok fl =>
    cases fl with
    | ret u => exact I1.after hq
    | next => exact False.elim hq
    | brk => exact False.elim hq
    | cont => exact False.elim hq
end
section
variable {P : Program} {w : World} {K : Frag} {mg : Str → Option Value} {base : Heap} {name qual : Str} {st : Stmt} {a : Addr} {fd : FuncData} {N ps : List Str} {k : Nat} {dvs : List V} {kws : List (Str × V)}
theorem calT_of {f : FD} {ds : DS} (F : FunD K name qual (defArgs st) (defBody st) (defScope st) dvs kws a fd) (S : FnScope N ps (defScope st)) (hb : Binds K fd ps []) (hm : mg name = some (.ref a)) (hlen : ∀ ss cs Ed Q, f ss cs Ed Q → ss.length = ps.length)
    (body : ∀ (cdv : Value) (A : Around) (outer : List Env) (s : Shared) (H : Hp) (E : XK), L2H.RoomH k (A.deeper (envOfC qual (defScope st) s.heap.objs.size a cdv)) → QSs (cxT (L2.CX P w) P w K mg base N qual (defScope st) a cdv A outer s H E) E (defBody st) ds)
    (hf : ∀ ss cs Ed Qd, f ss cs Ed Qd → ds (DN0 Qd (fun _ _ => False) Ed) (ss ++ List.replicate (N.length - ss.length) .no) cs) : CalT P w K mg base (k + 1) name ps f := by
  refine ⟨a, fd, hm, F.kp, ft_of F S (fun vs H Q E h => ?_) (fun cdv A outer s H vs Q E hr h => ?_), hb⟩
  · obtain ⟨as, ss, cs, Ed, Qd, _, h2, _, h4, _⟩ := h
    rw [pr_len h2]
    exact hlen _ _ _ _ h4
  · obtain ⟨as, ss, cs, Ed, Qd, h1, h2, h3, h4, h5⟩ := h
    obtain ⟨t, b1, b2⟩ := (body cdv A outer s H E hr).ex
    refine ⟨t, b1, b2 as _ H _ cs _ (DN0 Qd (fun _ _ => False) Ed) h1 (ev_start N h2) h3 (hf _ _ _ _ h4) ⟨fun ex σ' H' ρ' cs' hf e w' ev q => ?_, fun ex σ' H' ρ' cs' hf e w' ev q => q.elim, fun ex σ' H' ρ' cs' hf e w' ev q => q.elim, fun v H' x cs' e w' d q => ?_, fun p kd H' ds cs' e f' w' q => by cases kd <;> exact q.elim⟩⟩
    · exact h5 .non H' .none _ e w'.drop .non q
    · exact h5 v H' x cs' e w' d q
end
end Kp

namespace Kp
open PySem PySem.Spec PyProof.Rows L2
/-! ### try: body, except x as n: suite, where the error that is caught is tracked -/
section
variable {X : Cx} {pins : List (Addr × Obj)} {σ : L2.St} {H : Hp} {s : Shared}
/-- an error that was made behind the def's begin is tracked from here on -/
theorem tracked {a : Addr} {oe : Obj} {vs : Array Value} (I : L2.Inv X pins σ H s) (ha : s.heap.get? a = some oe) (hd : oe.data = .fields vs) (na : H a = none) (nL : a ≠ X.env.locals) (n0 : ∀ o, X.s_0.heap.get? a = some o → a ∉ X.ex → False) (np : ∀ p ∈ X.pn ++ pins, p.1 ≠ a) :
    L2.Inv (X.suite a (X.pn ++ pins)) [] σ (upd H a (exT a oe)) s := by
  have nw : ∀ {b : Addr} {u : HO}, H b = some u → b ≠ a := fun e => ne_of_none e na
  have keep : ∀ {b : Addr} {u : HO}, H b = some u → upd H a (exT a oe) b = some u := fun {b u} e => by rw [upd_ne (nw e)]; exact e
  refine ⟨I.ok.suite _ _, I.os, I.bare, ?_, I.loc, I.cell, ?_, ?_, ?_, ?_, I.len⟩
  · refine ⟨I.base.keep, I.base.slot, fun b o e n hx => ?_, I.base.there, fun b xs e => keep (I.base.tups b xs e), fun b o u e => keep (I.base.frzs b o u e), fun b ps e => ?_⟩
    · have nb : b ≠ a := fun z => by subst z; exact n0 o e hx
      rw [upd_ne nb]
      exact I.base.free b o e n hx
    · obtain ⟨more, z⟩ := I.base.tbls b ps e
      exact ⟨more, keep z⟩
  · show upd H a (exT a oe) X.env.locals = none
    rw [upd_ne (Ne.symm nL)]
    exact I.free
  · intro x c e
    have nc : c ≠ a := fun z => by
      subst z
      obtain ⟨v, oc, h1, h2⟩ := I.cell x c e
      rw [ha] at h1
      cases h1
      rw [hd] at h2
      cases h2
    rw [upd_ne nc]
    exact I.freeC x c e
  · intro p hp
    have hp' : p ∈ X.pn ++ pins := by
      have z : p ∈ (X.pn ++ pins) ++ [] := hp
      rwa [List.append_nil] at z
    obtain ⟨h1, h2, h3⟩ := I.pin p hp'
    exact ⟨h1, by rw [upd_ne (np p hp')]; exact h2, h3⟩
  · intro b u e
    by_cases hb : b = a
    · subst hb
      rw [upd_same] at e
      cases e
      exact ⟨ha, ⟨_, ha⟩, fun h1 h2 z k => k _ z⟩
    · rw [upd_ne hb] at e
      exact (I.hok b u e).stay (fun c v _ q => q) (fun c q => keep q) fun c xs q => keep q
theorem untrack {a : Addr} {pn' : List (Addr × Obj)} (I : L2.Inv (X.suite a (X.pn ++ pins)) pn' σ H s) (ok : X.Ok) : L2.Inv X pins σ H s :=
  ⟨ok, I.os, I.bare, I.base, I.loc, I.cell,
    I.free, I.freeC, fun p hp => I.pin p (List.mem_append_left _ hp),
    I.hok, I.len⟩
/-- what such a clause wishes of an error of the body -/
def wAsT (K : Frag) (c : Value) (i : Nat) (ts : Addr → Obj → Value → Option Addr → TS) (Wout : WX) (D : Ends) : WX := fun cls d σ H => ∃ b, PySem.W.exmOne K cls c = some b ∧
  (b = true → ∀ a oe, H a = none → Zc cls d oe → (∃ vs, oe.data = .fields vs) → ts a oe cls d { nx := fun z H' => D.nx (z.set i none) H', rt := D.rt, bk := fun z H' => D.bk (z.set i none) H', ct := fun z H' => D.ct (z.set i none) H' } (σ.set i (some (.ref a))) (upd H a (exT a oe))) ∧
  (b = false → Wout cls d σ H)
end
section
variable {X : Cx} {x n : Str} {c : Value} {i : Nat} {body suite : List Stmt} {b₀ : Stmt} {np pos pos' : Pos} {tb : WX → TS} {ts : Addr → Obj → Value → Option Addr → TS} {Wout : WX}
theorem ps_try_asT (hs : X.stack = X.env :: X.outer) (hf : X.env.frame = some X.env.locals) (hN : X.N.Nodup) (hi : X.N[i]? = some n) (hln : X.env.kindOf n = some .local) (hc : Names X x c) (tk : Takes X Wout)
    (hbody : ∀ (W : WX) (pn : List (Addr × Obj)) (xe : Value → Shared → Prop), Takes (X.tr pn xe) W → PSs (X.tr pn xe) body (tb W))
    (hsuite : ∀ (a : Addr) (oe : Obj) (cls : Value) (d : Option Addr) (pn : List (Addr × Obj)), PSs (X.suite a pn) (b₀ :: suite) (ts a oe cls d)) :
    PS X (.Try body [.ExceptHandler (some (.Name x np)) (some n) (b₀ :: suite) pos'] [] [] pos) (fun D σ H => tb (wAsT X.K c i ts Wout D) D σ H) := by
  refine ⟨fun pins s σ H D I wish => ?_⟩
  have ok := I.ok
  have fr : X.A.frames = some (X.env :: X.outer) := by rw [ok.frames, hs]
  have lc : Loc X.env.scope n := .inl hln
  refine wpAny_Try_except (wpAny_mono ((hbody (wAsT X.K c i ts Wout D) (X.pn ++ pins) (fun e t1 => wpAny (model X.prog X.w) X.A (noteFrame e X.env) (fun _ t2 => wpAny (model X.prog X.w) X.A (setFlight e none) (fun _ t3 =>
    wpAny (model X.prog X.w) X.A (handleBy e X.env [.ExceptHandler (some (.Name x np)) (some n) (b₀ :: suite) pos']) (L2.SP X pins D) X.xe t3) X.xe t2) X.xe t1) (fun u t0 met => ?_)).run [] s σ H D (I.toTry _) wish) (fun fl t1 ends => ?_) fun e t1 z => z)
  · obtain ⟨a, B, sI, pins1, σ1, H1, cls, d, rfl, J0, ground, up1, sky0, na, os1, ag1, b, hexm, yes, no⟩ := met
    have J : L2.Inv X pins σ1 H1 sI := J0.ofTry ok
    have sky : Sky B (X.env :: X.outer) a (Zc cls d) X.env.locals t0.heap := by rw [← hs]; exact sky0
    show wpAny (model X.prog X.w) X.A (noteFrame (.ref a) X.env) _ _ _
    refine Sky.land Zc.steady fr hf sky fun h2 fly2 up2 => ?_
    have J2 : L2.Inv X pins σ1 H1 { t0 with heap := h2 } := J.landed ground fly2.1 (up1.trans up2) os1 ag1
    obtain ⟨o2, v2, get2, zc2, dat2⟩ := fly2.there
    have noFrame : a ∉ frs (X.env :: X.outer) := fun hm => by
      obtain ⟨_, o', e', nf⟩ := fly2.2.2.1.mem hm
      rw [get2] at e'
      cases e'
      exact nf _ dat2
    have nLoc : a ≠ X.env.locals := fun z => noFrame (List.mem_filterMap.mpr ⟨X.env, List.mem_cons_self, by rw [hf, z]⟩)
    have nFs : a ∉ X.fs := fun hm => by
      obtain ⟨e, he, q⟩ := List.mem_filterMap.mp hm
      exact noFrame (List.mem_filterMap.mpr ⟨e, List.mem_cons_of_mem _ he, q⟩)
    -- the error is none of what was there
    have fresh : ∀ o, sI.heap.get? a = some o → False := fun o e => by
      have z := ground a o e (by rw [hs]; exact noFrame)
      rw [fly2.2.1] at z
      cases z
    have n0 : ∀ o, X.s_0.heap.get? a = some o → a ∉ X.ex → False := fun o e hx => by
      obtain ⟨o', e'⟩ := J.base.there a o e hx
      exact fresh o' e'
    have np' : ∀ p ∈ X.pn ++ pins, p.1 ≠ a := fun p hp z => fresh p.2 (by rw [← z]; exact (J.pin p hp).1)
    have S2 := J2.suite get2 dat2 na nLoc nFs
    refine wpAny_handleBy_cons (codeAny_handlers_test ?_) (by intro q; cases q)
    have LT : PySem.W.Looks (model X.prog X.w) h2 (typeOf (.ref a)) cls := fun _ _ _ _ k q => wpAny_typeOf_ref (k _ _ get2) (by rw [zc2.1]; exact q)
    have LM := PySem.W.exm_one (M := model X.prog X.w) J2.kIn LT hexm
    have asked : ∀ {Q : Value → Shared → Prop} {E : Value → Shared → Prop}, Q c { t0 with heap := h2 } → wpAny (model X.prog X.w) (X.A.mark (some (.ref a))) (eval (.Name x np) X.env) Q E { t0 with heap := h2 } := fun {Q E} q => by
      obtain ⟨hg, dbg, hm | ⟨hm, hv, hnn⟩⟩ := hc
      · exact ld_glob (X := X.suite a ((a, o2) :: (X.pn ++ pins))) S2 hg hm q dbg
      · exact ld_blt (X := X.suite a ((a, o2) :: (X.pn ++ pins))) S2 hg hm hv q hnn dbg
    refine asked (LM.here ?_)
    cases b with
    | false =>
      show wpAny _ X.A (handleBy (.ref a) X.env []) _ _ _
      refine wpAny_handleBy_nil ?_
      obtain ⟨k1, k2, k3, o5, v5, T, oT, tv, g5, z5, d5, f5, r5⟩ := id fly2
      unfold PySem.passOn
      refine wpAny_bind (wpAny_field g5 d5 f5 ?_)
      rw [if_neg (show ¬ ((Value.ref T == Value.none) = true) from by simp)]
      have further : wpAny (model X.prog X.w) X.A (setFlight (.ref a) X.env.frame) (fun _ t4 => wpAny (model X.prog X.w) X.A (throw (.ref a) : Sem Flow) (L2.SP X pins D) X.xe t4) X.xe { t0 with heap := h2 } := by
        rw [hf]
        refine HandSPX.setFlight_upZ fly2 fun h4 held up4 => wpAny_throw (tk _ _ ?_)
        exact ⟨a, B, sI, pins, σ1, H1, cls, d, rfl, J, ground, (up1.trans up2).trans up4, .inr (.inr (by rw [hs]; exact held)), na, os1, ag1, no rfl⟩
      first
      | exact wpAny_bind (wpAny_pure (wpAny_bind further))
      | exact wpAny_bind further
    | true =>
      refine codeAny_handlers_suite_as ?_
      refine HandSPX.lands_againZ fly2 fun h3 fly3 up3 => ?_
      have J3 : L2.Inv X pins σ1 H1 { t0 with heap := h3 } := J.landed ground fly3.1 ((up1.trans up2).trans up3) os1 ag1
      obtain ⟨o3, v3, get3, zc3, dat3⟩ := fly3.there
      have S3 := tracked J3 get3 dat3 na nLoc n0 np'
      refine store_ok (X := X.suite a (X.pn ++ pins)) (v := .ref a) S3 hN hi lc rfl (fun t4 S4 => ?_) (.inr hln)
      refine wpAny_mono ((hsuite a o3 cls d (X.pn ++ pins)).run [] t4 _ _ _ S4 (yes rfl a o3 na zc3 ⟨_, dat3⟩)) (fun fl t5 ends => ?_) fun _ _ z => False.elim z
      have close : ∀ {σ5 : L2.St} {H5 : Hp} {Q : Shared → Prop}, L2.Inv (X.suite a (X.pn ++ pins)) [] σ5 H5 t5 → (∀ t6, L2.Inv X pins (σ5.set i none) H5 t6 → Q t6) →
          wpAny (model X.prog X.w) X.A (do bindName X.env n .none; unbindBehindTheSuite X.env n pos') (fun _ t6 => Q t6) X.xe t5 := fun {σ5 H5 Q} S5 hq => gone_ok (untrack S5 ok) hN hi hln hq
      cases fl with
      | next =>
        obtain ⟨σ5, H5, S5, q5⟩ := ends
        exact close S5 fun t6 J6 => ⟨_, _, J6, q5⟩
      | brk =>
        obtain ⟨σ5, H5, S5, q5⟩ := ends
        exact close S5 fun t6 J6 => ⟨_, _, J6, q5⟩
      | cont =>
        obtain ⟨σ5, H5, S5, q5⟩ := ends
        exact close S5 fun t6 J6 => ⟨_, _, J6, q5⟩
      | ret u =>
        obtain ⟨v5, σ5, H5, S5, r5, q5⟩ := ends
        exact close S5 fun t6 J6 => ⟨_, _, _, J6, r5, q5⟩
  · cases fl with
    | next =>
      obtain ⟨σ5, H5, S5, q5⟩ := ends
      exact wpAny_execs_nil ⟨σ5, H5, S5.ofTry ok, q5⟩
    | brk =>
      obtain ⟨σ5, H5, S5, q5⟩ := ends
      exact ⟨σ5, H5, S5.ofTry ok, q5⟩
    | cont =>
      obtain ⟨σ5, H5, S5, q5⟩ := ends
      exact ⟨σ5, H5, S5.ofTry ok, q5⟩
    | ret u =>
      obtain ⟨v5, σ5, H5, S5, r5, q5⟩ := ends
      exact ⟨v5, σ5, H5, S5.ofTry ok, r5, q5⟩
end
end Kp

namespace Kp
open PySem PySem.Spec PyProof.Rows L2
abbrev E0 : XK := fun _ _ _ => False
/-! ### what may raise within a try: one such step, at the slots as they stand -/
def SEw (K : Frag) (W : WX) (t : TE) (d : DE) : Prop := ∀ (as : List CA) (σ : L2.St) (H : Hp) (ρ : List Sl) (cs : CS) (Ed : XD) (Qd : PyData → CS → Prop) (Q : VK),
  Wk K H as cs → Ev K H as σ ρ → EK K (WE W σ) Ed as H → d ρ cs Ed Qd → (∀ v H' x cs', Ext as H H' → Wk K H' as cs' → Dq K (hid H' as) v x → Qd x cs' → Q v H') → t σ H Q
structure QEw (X : Cx) (W : WX) (e : Expr) (d : DE) : Prop where
  ex : ∃ t, PE X e t ∧ SEw X.K W t d
abbrev DSw := XD → DN → List Sl → CS → Prop
def SSw (K : Frag) (W : WX) (t : TS) (d : DSw) : Prop := ∀ (as : List CA) (σ : L2.St) (H : Hp) (ρ : List Sl) (cs : CS) (Ed : XD) (D : Ends) (Dd : DN),
  Wk K H as cs → Ev K H as σ ρ → EK K (WE W σ) Ed as H → d Ed Dd ρ cs → Sim K as H D Dd → t D σ H
structure QSw (X : Cx) (W : WX) (s : Stmt) (d : DSw) : Prop where
  ex : ∃ t, PS X s t ∧ SSw X.K W t d
structure QSsw (X : Cx) (W : WX) (s : List Stmt) (d : DSw) : Prop where
  ex : ∃ t, PSs X s t ∧ SSw X.K W t d
section
variable {X : Cx} {W : WX} {K : Frag}
theorem ekF {as : List CA} {H : Hp} : EK K E0 X0 as H := fun _ _ _ _ _ q => q.elim
/-- no error comes of it -/
def dPl (da : DE) : DE := fun ρ cs _ Q => da ρ cs X0 Q
theorem w_plain {e : Expr} {da : DE} (ha : QE X E0 e da) : QEw X W e (dPl da) := by
  obtain ⟨t, a1, a2⟩ := ha.ex
  exact ⟨t, a1, fun as σ H ρ cs Ed Qd Q w ev ek h k => a2 as σ H ρ cs X0 Qd Q w ev ekF h k⟩
def dCallW (f : FD) (da : DA) : DE := fun ρ cs Ed Q => da ρ cs X0 fun ss cs1 => f ss cs1 Ed Q
theorem w_call {k : Nat} {name : Str} {ps : List Str} {f : FD} {e : Expr} {es : List Expr} {p pos : Pos} {da : DA} (F : Cal X.prog X.w X.K X.mg X.base k name ps f) (hr : Room k X.A) (tk : Takes X W) (ha : QA X E0 (e :: es) da)
    (hg : Gl X name := by rfl) (hdb : (name == ("__debug__" : Str)) = false := by decide) (he : starEach (e :: es) X.env = (false, eval e X.env) :: starEach es X.env := by rfl) (hpl : (backTo pos (starEach es X.env)).any (·.1) = false := by rfl) :
    QEw X W (.Call (.Name name p) (e :: es) [] pos) (dCallW f da) := by
  obtain ⟨a, fd, h1, h2, h3, h4⟩ := F.ex
  obtain ⟨ta, a1, a2⟩ := ha.ex
  refine ⟨_, pe_callSD h3 hr hg h1 h2 h4 .nil (passAt tk) a1 hdb he hpl, fun as σ H ρ cs Ed Qd Q w ev ek h kk => ?_⟩
  exact a2 as σ H ρ cs X0 _ _ w ev ekF h fun vs H1 ss cs1 e1 w1 d1 q1 => ⟨as, ss, cs1, Ed, Qd, w1, by rw [List.append_nil]; exact d1, ek.ext e1, q1, fun v H' x cs' e2 w2 d2 q2 => kk v H' x cs' (e1.trans e2) w2 d2 q2⟩
def dIfW (dt : DT) (da db : DE) : DE := fun ρ cs Ed Q => dt ρ cs X0 fun b cs1 => if b = true then da ρ cs1 Ed Q else db ρ cs1 Ed Q
theorem w_if {c a b : Expr} {pos : Pos} {dt : DT} {da db : DE} (hc : QT X E0 c dt) (ha : QEw X W a da) (hb : QEw X W b db) : QEw X W (.IfExp c a b pos) (dIfW dt da db) := by
  obtain ⟨tc, c1, c2⟩ := hc.ex
  obtain ⟨ta, a1, a2⟩ := ha.ex
  obtain ⟨tb, b1, b2⟩ := hb.ex
  refine ⟨_, pe_ifExp c1 a1 b1, fun as σ H ρ cs Ed Qd Q w ev ek h k => c2 as σ H ρ cs X0 _ _ w ev ekF h fun b H1 cs1 e1 w1 h1 => ?_⟩
  cases b with
  | true => exact iteT (a2 as σ H1 ρ cs1 Ed Qd Q w1 (ev.ext e1) (ek.ext e1) (by simpa using h1) fun v H2 x cs2 e2 w2 d2 q2 => k v H2 x cs2 (e1.trans e2) w2 d2 q2)
  | false => exact iteF (b2 as σ H1 ρ cs1 Ed Qd Q w1 (ev.ext e1) (ek.ext e1) (by simpa using h1) fun v H2 x cs2 e2 w2 d2 q2 => k v H2 x cs2 (e1.trans e2) w2 d2 q2)
def dSetW (i : Nat) (da : DE) : DSw := fun Ed Dd ρ cs => da ρ cs Ed fun x cs1 => Dd.nx 0 (ρ.set i (.d x)) cs1
theorem w_set {e : Expr} {pos pos' : Pos} {da : DE} {x : Str} (i : Nat) (hN : X.N.Nodup) (ha : QEw X W e da) (hi : X.N[i]? = some x := by rfl) (hx : Loc X.env.scope x := by first | exact Or.inl rfl | exact Or.inr rfl) (hs : swapsWith e (some (.Name x pos')) pos.line X.env = pure false := by rfl)
    (hf : X.fn x = true ∨ X.env.scope.names.lookup x = some .local := by first | exact .inl rfl | exact .inr rfl) : QSw X W (.Assign [.Name x pos'] e pos) (dSetW i da) := by
  obtain ⟨ta, a1, a2⟩ := ha.ex
  exact ⟨_, ps_set hN hi hx a1 hs hf, fun as σ H ρ cs Ed D Dd w ev ek h S => a2 as σ H ρ cs Ed _ _ w ev ek h fun v H1 z cs1 e1 w1 d1 h1 => S.nx [] _ H1 _ cs1 Nw.nil e1 w1 (ev_set (s := .d z) (ev.ext e1) i ⟨v, rfl, d1⟩) h1⟩
def dDropW (da : DE) : DSw := fun Ed Dd ρ cs => da ρ cs Ed fun _ cs1 => Dd.nx 0 ρ cs1
theorem w_expr {e : Expr} {pos : Pos} {da : DE} (ha : QEw X W e da) (hs : swapsWith e none pos.line X.env = pure false := by rfl) : QSw X W (.Expr e pos) (dDropW da) := by
  obtain ⟨ta, a1, a2⟩ := ha.ex
  exact ⟨_, ps_expr a1 hs, fun as σ H ρ cs Ed D Dd w ev ek h S => a2 as σ H ρ cs Ed _ _ w ev ek h fun v H1 x cs1 e1 w1 d1 h1 => S.nx [] σ H1 ρ cs1 Nw.nil e1 w1 (ev.ext e1) h1⟩
def dIfSW (dt : DT) (d1 d2 : DSw) : DSw := fun Ed Dd ρ cs => dt ρ cs X0 fun b cs1 => if b = true then d1 Ed Dd ρ cs1 else d2 Ed Dd ρ cs1
theorem w_ifS {c : Expr} {a b : List Stmt} {pos : Pos} {dt : DT} {d1 d2 : DSw} (hc : QT X E0 c dt) (ha : QSsw X W a d1) (hb : QSsw X W b d2) : QSw X W (.If c a b pos) (dIfSW dt d1 d2) := by
  obtain ⟨tc, c1, c2⟩ := hc.ex
  obtain ⟨ta, a1, a2⟩ := ha.ex
  obtain ⟨tb, b1, b2⟩ := hb.ex
  refine ⟨_, ps_if c1 a1 b1, fun as σ H ρ cs Ed D Dd w ev ek h S => c2 as σ H ρ cs X0 _ _ w ev ekF h fun b H1 cs1 e1 w1 h1 => ?_⟩
  cases b with
  | true => exact iteT (a2 as σ H1 ρ cs1 Ed D Dd w1 (ev.ext e1) (ek.ext e1) (by simpa using h1) (S.ext w1 e1))
  | false => exact iteF (b2 as σ H1 ρ cs1 Ed D Dd w1 (ev.ext e1) (ek.ext e1) (by simpa using h1) (S.ext w1 e1))
theorem w_one {s : Stmt} {d : DSw} (h : QSw X W s d) : QSsw X W [s] d := by
  obtain ⟨t, a1, a2⟩ := h.ex
  exact ⟨_, pss_one a1, a2⟩
theorem w_nil : QSsw X W [] (fun _ Dd ρ cs => Dd.nx 0 ρ cs) := ⟨_, pss_nil, fun as σ H ρ cs Ed D Dd w ev ek h S => S.nx [] σ H ρ cs Nw.nil Ext.refl w ev h⟩
end
/-! ### the try -/
/-- the ends, the name of the clause gone -/
def DN.gone (i : Nat) (D : DN) : DN where
  m := D.m
  nx := fun k ρ cs => D.nx k (ρ.set i .no) cs
  rt := D.rt
  rf := D.rf
  bk := fun k ρ cs => D.bk k (ρ.set i .no) cs
  ct := fun k ρ cs => D.ct k (ρ.set i .no) cs
  ex := X0
def dTry (i : Nat) (nms : List Str) (db : DSw) (ds : DS) : DS := fun Dd ρ cs => db (fun nm cs1 => nm ∈ nms ∧ ds (Dd.gone i) (ρ.set i (.x nm)) cs1) Dd ρ cs
def tOfW (K : Frag) (W : WX) (d : DSw) : TS := fun D σ H => ∃ (as : List CA) (ρ : List Sl) (cs : CS) (Ed : XD) (Dd : DN), Wk K H as cs ∧ Ev K H as σ ρ ∧ EK K (WE W σ) Ed as H ∧ d Ed Dd ρ cs ∧ Sim K as H D Dd
def tOfS (K : Frag) (d : DS) : TS := fun D σ H => ∃ (as : List CA) (ρ : List Sl) (cs : CS) (Dd : DN), Wk K H as cs ∧ Ev K H as σ ρ ∧ EK K E0 Dd.ex as H ∧ d Dd ρ cs ∧ Sim K as H D Dd
section
variable {X : Cx} {E : XK} {K : Frag}
theorem Sim.gone {as : List CA} {H : Hp} {D : Ends} {Dd : DN} (i : Nat) (S : Sim K as H D Dd) : Sim K as H { nx := fun z H' => D.nx (z.set i none) H', rt := D.rt, bk := fun z H' => D.bk (z.set i none) H', ct := fun z H' => D.ct (z.set i none) H' } (Dd.gone i) :=
  ⟨fun ex σ' H' ρ' cs' hf e w ev q => S.nx ex _ H' _ cs' hf e w (pr_set (show SlOk K H' (ex ++ as) none .no from trivial) i ev) q,
   fun ex σ' H' ρ' cs' hf e w ev q => S.bk ex _ H' _ cs' hf e w (pr_set (show SlOk K H' (ex ++ as) none .no from trivial) i ev) q,
   fun ex σ' H' ρ' cs' hf e w ev q => S.ct ex _ H' _ cs' hf e w (pr_set (show SlOk K H' (ex ++ as) none .no from trivial) i ev) q,
   S.rt, S.rf⟩
theorem q_try {x n : Str} {body suite : List Stmt} {b₀ : Stmt} {np pos pos' : Pos} {db : DSw} {ds : DS} (i : Nat) (nms : List Str) (hN : X.N.Nodup) (hb : ∀ (W : WX) (pn : List (Addr × Obj)) (xe : Value → Shared → Prop), Takes (X.tr pn xe) W → QSsw (X.tr pn xe) W body db)
    (hu : ∀ (a : Addr) (pn : List (Addr × Obj)), QSs (X.suite a pn) E0 (b₀ :: suite) ds) (tk : Takes X (fun cls d _ H => E cls d H)) (F : X.mg x = some (.ref (He.ga X.K x))) (hx : ∀ nm ∈ nms, PySem.W.exmOne X.K (.ref (He.ga X.K nm)) (.ref (He.ga X.K x)) = some true)
    (hs : X.stack = X.env :: X.outer := by rfl) (hf : X.env.frame = some X.env.locals := by rfl) (hi : X.N[i]? = some n := by rfl) (hln : X.env.kindOf n = some .local := by rfl) (hg : Gl X x := by rfl) (hdb : (x == ("__debug__" : Str)) = false := by decide) (hpl : ∀ nm ∈ nms, codeE nm = none := by decide +kernel) :
    QS X E (.Try body [.ExceptHandler (some (.Name x np)) (some n) (b₀ :: suite) pos'] [] [] pos) (dTry i nms db ds) := by
  refine ⟨_, ps_try_asT (tb := fun W => tOfW X.K W db) (ts := fun a oe cls d => tOfS X.K ds) hs hf hN hi hln ⟨hg, hdb, .inl F⟩ tk (fun W pn xe tk' => ?_) (fun a oe cls d pn => ?_), fun as σ H ρ cs D Dd w ev ek h S => ?_⟩
  · obtain ⟨t, h1, h2⟩ := (hb W pn xe tk').ex
    refine ⟨fun pins s σ H D I q => ?_⟩
    obtain ⟨as, ρ, cs, Ed, Dd, w, ev, ek, hd, S⟩ := q
    exact h1.run pins s σ H D I (h2 as σ H ρ cs Ed D Dd w ev ek hd S)
  · obtain ⟨t, h1, h2⟩ := (hu a pn).ex
    refine ⟨fun pins s σ H D I q => ?_⟩
    obtain ⟨as, ρ, cs, Dd, w, ev, ek, hd, S⟩ := q
    exact h1.run pins s σ H D I (h2 as σ H ρ cs D Dd w ev ek hd S)
  · refine ⟨as, ρ, cs, _, Dd, w, ev, fun nm H1 cs1 e1 w1 q1 dd xd => ?_, h, S⟩
    obtain ⟨q1, q2⟩ := q1
    obtain rfl := (exD_plain (hpl nm q1)).mp xd
    rw [exN_plain (hpl nm q1)]
    refine ⟨true, hx nm q1, fun _ a oe na hz hf2 => ?_, nofun⟩
    have sm := Same.new (o := exT a oe) na
    have ev1 : Ev X.K (upd H1 a (exT a oe)) as σ ρ := ev.ext (e1.trans (Ext.of sm))
    refine ⟨as, _, cs1, Dd.gone i, w1.grow sm, ev_set (s := .x nm) ev1 i ⟨a, oe, rfl, hid_new (w1.fresh na), ⟨none, by rw [exN_plain (hpl nm q1)]; exact hz, (exD_plain (hpl nm q1)).mpr rfl⟩, hf2⟩, fun _ _ _ _ _ z => z.elim, q2, ?_⟩
    exact (S.ext (w1.grow sm) (e1.trans (Ext.of sm))).gone i
end
end Kp

namespace Kp
open PySem PySem.Spec PyProof.Rows L2
section
variable {X : Cx} {E : XK} {K : Frag}
/-! ### how often, and where first, True stands in a list of truths -/
def rCntF (K : Frag) : V → List V → Hp → VK → Prop := fun x xs H Q => ∃ (a : Addr) (ys : List V) (y : V), x = .ref a ∧ xs = [y] ∧ SqL K H a ys ∧ flatV y = true ∧ ys.all flatV = true ∧ Q (.int (ys.countP (fun z => eqV z y) : Nat)) H
theorem cnt_eq {y : V} : ∀ {ys : List V} {us : List Value}, Vals ys us → ys.all flatV = true → us.countP (eqU y) = ys.countP (fun z => eqV z y)
  | _, _, .nil, _ => rfl
  | z :: ys, u :: us, .cons r t, f => by
    obtain ⟨f1, f2⟩ := Bool.and_eq_true_iff.mp (show (flatV z && ys.all flatV) = true from f)
    rw [List.countP_cons, List.countP_cons, cnt_eq t f2, eqU_of r f1]
theorem mt_cntF : MtR X "list.count" (rCntF X.K) := by
  intro pins s σ H x xs v us Q I rx rxs h
  obtain ⟨a, ys, y, rfl, rfl, hs, fy, fys, q⟩ := h
  cases rx
  obtain ⟨u, rfl, ru⟩ := rxs.one
  obtain ⟨its, rv, ⟨⟨oc, od, ob, sl⟩, n, ho, hc, hdn, hd⟩, hlen⟩ := I.list hs
  simp only [] at hc hd
  subst hc; subst hd
  refine call_meets PySem.F.slot_list_count ⟨_, ho, rfl⟩ PySem.F.entry_list_count (PySem.F.args_list_count_2 _ _) (SeqAt.list_countAt a its.toArray n od sl u (eqU y)) ⟨ho, fun z hz => mem_eqAt ru fy rv fys z (by simpa using hz), ?_⟩
  have e := cnt_eq (y := y) rv fys
  refine ⟨.int (ys.countP (fun z => eqV z y) : Nat), H, I.tok _, ⟨s.toks, ?_⟩, q⟩
  show Value.int ((its.toArray.toList.countP (eqU y) : Nat) : Int) s.toks = _
  rw [show its.toArray.toList = its from rfl, e]
theorem bls_flat : ∀ bs : List Bool, (bs.map V.bl).all flatV = true
  | [] => rfl
  | b :: bs => by
    show (true && (bs.map V.bl).all flatV) = true
    rw [bls_flat bs]; rfl
theorem bls_of {H : Hp} : ∀ {xs : List V} {bs : List Bool}, DqAll K H xs (bs.map PyData.bool) → xs = bs.map V.bl
  | _, [], .nil => rfl
  | _, b :: bs, .cons r t => by
    cases r
    rw [bls_of t]; rfl
theorem bls_cnt : ∀ bs : List Bool, (bs.map V.bl).countP (fun z => eqV z (.bl true)) = bs.count true
  | [] => rfl
  | b :: bs => by
    rw [List.map_cons, List.countP_cons, List.count_cons, bls_cnt bs]
    cases b <;> rfl
/-- the slot's list of truths -/
theorem slot_bls {as : List CA} {σ : L2.St} {H : Hp} {ρ : List Sl} {cs : CS} {i : Nat} {bs : List Bool} (w : Wk K H as cs) (ev : Ev K H as σ ρ) (h : ρ[i]? = some (.d (.list (bs.map .bool)))) : ∃ a, σ[i]? = some (some (.ref a)) ∧ SqL K H a (bs.map V.bl) := by
  obtain ⟨o, ho, hs⟩ := pr_get ev h
  obtain ⟨v, rfl, hv⟩ := hs
  cases hv with
  | lst h1 h2 =>
    rw [bls_of h2] at h1
    exact ⟨_, ho, SqL.of (hid1 h1)⟩
def dCntT (i : Nat) : DE := fun ρ cs _ Q => ∃ bs : List Bool, ρ[i]? = some (.d (.list (bs.map .bool))) ∧ Q (.int (bs.count true : Nat)) cs
theorem q_cntT {o : Expr} {apos cpos p0 : Pos} {j0 : Nat} (i : Nat) (ho : PE X o (tVar i)) (hbase : attributeBase o "count" X.env (eval o X.env) = eval o X.env := by rfl)
    (hfew : ((backTo cpos (starEach [.Constant (.bool true) j0 p0] X.env)).all (fun x => !x.1) && (backToKw cpos (keywordEach [] X.env)).all (fun x => x.1.isSome) && decide (([.Constant (.bool true) j0 p0] : List Expr).length + ([] : List Keyword).length + (if ([] : List Keyword).isEmpty then 0 else 1) < 30)) = true := by rfl)
    (hline : (apos.endLine == cpos.line) = true := by rfl) (hs : starEach [.Constant (.bool true) j0 p0] X.env = (false, eval (.Constant (.bool true) j0 p0) X.env) :: starEach [] X.env := by rfl) (hplain : (backTo cpos (starEach [] X.env)).any (·.1) = false := by rfl) :
    QE X E (.Call (.Attribute o "count" apos) [.Constant (.bool true) j0 p0] [] cpos) (dCntT i) := by
  refine ⟨_, pe_bm PySem.F.plainAttrs_list PySem.F.slot_list_count PySem.F.type_list_count mt_cntF ho (pa_cons pe_bl pa_nil hs) hbase hfew hline hs hplain, fun as σ H ρ cs Ed Qd Q w ev ek h k => ?_⟩
  obtain ⟨bs, h1, h2⟩ := h
  obtain ⟨a, g1, g2⟩ := slot_bls w ev h1
  refine ⟨_, g1, .inl ⟨rfl, _, g2⟩, a, _, _, rfl, rfl, g2, rfl, bls_flat bs, ?_⟩
  rw [bls_cnt]
  exact k _ H _ cs Ext.refl w (.int _) h2
def dIdxT (i : Nat) : DE := fun ρ cs _ Q => ∃ (bs : List Bool) (j : Nat), ρ[i]? = some (.d (.list (bs.map .bool))) ∧ bs[j]? = some true ∧ (∀ m, m < j → bs[m]? ≠ some true) ∧ Q (.int (j : Nat)) cs
theorem q_idxT {o : Expr} {apos cpos p0 : Pos} {j0 : Nat} (i : Nat) (ho : PE X o (tVar i)) (hbase : attributeBase o "index" X.env (eval o X.env) = eval o X.env := by rfl)
    (hfew : ((backTo cpos (starEach [.Constant (.bool true) j0 p0] X.env)).all (fun x => !x.1) && (backToKw cpos (keywordEach [] X.env)).all (fun x => x.1.isSome) && decide (([.Constant (.bool true) j0 p0] : List Expr).length + ([] : List Keyword).length + (if ([] : List Keyword).isEmpty then 0 else 1) < 30)) = true := by rfl)
    (hline : (apos.endLine == cpos.line) = true := by rfl) (hs : starEach [.Constant (.bool true) j0 p0] X.env = (false, eval (.Constant (.bool true) j0 p0) X.env) :: starEach [] X.env := by rfl) (hplain : (backTo cpos (starEach [] X.env)).any (·.1) = false := by rfl) :
    QE X E (.Call (.Attribute o "index" apos) [.Constant (.bool true) j0 p0] [] cpos) (dIdxT i) := by
  refine ⟨_, pe_bm PySem.F.plainAttrs_list PySem.F.slot_list_index PySem.F.type_list_index mt_index ho (pa_cons pe_bl pa_nil hs) hbase hfew hline hs hplain, fun as σ H ρ cs Ed Qd Q w ev ek h k => ?_⟩
  obtain ⟨bs, j, h1, h2, h3, h4⟩ := h
  obtain ⟨a, g1, g2⟩ := slot_bls w ev h1
  refine ⟨_, g1, .inl ⟨rfl, _, g2⟩, a, _, _, j, .bl true, rfl, rfl, g2, rfl, bls_flat bs, by rw [List.getElem?_map, h2]; rfl, rfl, fun m z hm hz => ?_, k _ H _ cs Ext.refl w (.int _) h4⟩
  rw [List.getElem?_map] at hz
  cases q : bs[m]? with
  | none => rw [q] at hz; cases hz
  | some b =>
    rw [q] at hz
    cases hz
    cases b with
    | false => rfl
    | true => exact absurd q (h3 m hm)
/-! ### glue -/
theorem room_mark {k : Nat} {A : Around} (r : Room k A) (v : Option Value) : L2H.RoomH k (A.mark v) := ⟨r.dp, r.un⟩
theorem passes_suite {a : Addr} {pn : List (Addr × Obj)} : Passes (L2.CX X.prog X.w) (X.suite a pn) E0 := fun pins σ H s e s' I c => by
  obtain ⟨_, _, _, _, _, _, _, _, _, _, _, _, z⟩ := c
  exact z
end
end Kp
namespace Kp
open PySem PySem.Spec PyProof.Rows L2
theorem roomH_units {k : Nat} {A : Around} (r : L2H.RoomH k A) : A.units + 64 < cLine := by have := r.un; omega
end Kp

namespace Kp
open PySem PySem.Spec PyProof.Rows L2
/-! ### a head that also looks at classes of errors: cl all of them, ds those that are raised, all right under LineError -/
theorem xcB_ok {K : Frag} {h : Heap} {mg : Str → Option Value} (X : K.In h) (G : h.Ns mainGlobals mg) {x : Str} (c : xcB K x = true) : XcF K mg x := by
  obtain ⟨c1, c2⟩ := Bool.and_eq_true_iff.mp c
  obtain ⟨e1, e2, e3, e4⟩ := He.exc_ok c2
  exact ⟨PySem.W.mg_of X G (He.eqO_ok c1), e1, e2, e3, e4⟩
theorem exB_ok {K : Frag} {d : Str} (c : exB K d = true) : ExcC K (He.ga K d) := by
  obtain ⟨c1, c⟩ := Bool.and_eq_true_iff.mp c
  obtain ⟨c2, c⟩ := Bool.and_eq_true_iff.mp c
  obtain ⟨c3, c⟩ := Bool.and_eq_true_iff.mp c
  obtain ⟨c4, c⟩ := Bool.and_eq_true_iff.mp c
  obtain ⟨c5, c⟩ := Bool.and_eq_true_iff.mp c
  obtain ⟨c6, c⟩ := Bool.and_eq_true_iff.mp c
  obtain ⟨c7, c8⟩ := Bool.and_eq_true_iff.mp c
  exact ⟨He.eqO_ok c1, He.eqO_ok c2, of_decide_eq_true c3, c4, He.eqO_ok c5, He.eqO_ok c6, of_decide_eq_true c7, of_decide_eq_true c8⟩
/-- all that is known of the errors -/
structure ErrF (K : Frag) (mg : Str → Option Value) (ds rs cl : List Str) : Prop where
  x : ∀ c ∈ cl, mg c = some (.ref (He.ga K c))
  r : ∀ d ∈ rs, XcF K mg d
  i : ∀ d ∈ ds, ExcC K (He.ga K d)
  v : ∀ d ∈ ds, PySem.W.kitOne K (.ref (He.ga K d)) (.type "ValueError") = some true
  l : ∀ d ∈ ds, PySem.W.exmOne K (.ref (He.ga K d)) (.ref (He.ga K "LineError")) = some true
  k : ∀ d ∈ ds, ∀ c ∈ cl, (d == ("LineError" : Str)) = false → (c == ("LineError" : Str)) = false → PySem.W.kitOne K (.ref (He.ga K d)) (.ref (He.ga K c)) = some (d == c)
theorem errF_ok {K : Frag} {h : Heap} {mg : Str → Option Value} (X : K.In h) (G : h.Ns mainGlobals mg) {ds rs cl : List Str} (c : errB ds rs cl K = true) : ErrF K mg ds rs cl := by
  obtain ⟨c0, c2⟩ := Bool.and_eq_true_iff.mp c
  obtain ⟨c1, c3⟩ := Bool.and_eq_true_iff.mp c0
  have at_ : ∀ d ∈ ds, exB K d = true ∧ kvB K d = true ∧ (cl.all fun c => d == "LineError" || (c == "LineError" || kxB K d c)) = true := fun d hd => by
    obtain ⟨z1, z2⟩ := Bool.and_eq_true_iff.mp (List.all_eq_true.mp c2 d hd)
    exact ⟨z1, Bool.and_eq_true_iff.mp z2⟩
  refine ⟨fun c hc => PySem.W.mg_of X G (He.eqO_ok (List.all_eq_true.mp c1 c hc)), fun d hd => xcB_ok X G (List.all_eq_true.mp c3 d hd), fun d hd => exB_ok (at_ d hd).1, fun d hd => ?_, fun d hd => ?_, fun d hd c hc n1 n2 => ?_⟩
  · exact of_decide_eq_true (Bool.and_eq_true_iff.mp (at_ d hd).2.1).1
  · exact of_decide_eq_true (Bool.and_eq_true_iff.mp (at_ d hd).2.1).2
  · have z := List.all_eq_true.mp (at_ d hd).2.2 c hc
    rw [n1, n2, Bool.false_or, Bool.false_or] at z
    exact of_decide_eq_true z
theorem kitAny_of {K : Frag} {d : Str} : ∀ {cl : List Str}, (∀ c ∈ cl, PySem.W.kitOne K (.ref (He.ga K d)) (.ref (He.ga K c)) = some (d == c)) → PySem.W.kitAny K (.ref (He.ga K d)) ((cl.map (He.ga K)).map Value.ref) = some (cl.any fun c => d == c)
  | [], _ => rfl
  | c :: cl, h => by
    have h1 := h c List.mem_cons_self
    have h2 := kitAny_of (cl := cl) fun x hx => h x (List.mem_cons_of_mem _ hx)
    show (match PySem.W.kitOne K (.ref (He.ga K d)) (.ref (He.ga K c)) with
      | some true => some true
      | some false => PySem.W.kitAny K (.ref (He.ga K d)) ((cl.map (He.ga K)).map Value.ref)
      | none => none) = some ((d == c) || cl.any fun c => d == c)
    rw [h1]
    cases d == c with
    | true => rfl
    | false => exact h2
end Kp

namespace Kp
open PySem PySem.Spec PyProof.Rows L2 HT
/-! ### t[::-1] of a tuple -/
section
variable {prog : Program} {w : World} {A : Around} {E : Value → Shared → Prop} {s : Shared}
theorem adjust_rev (n : Nat) : Builtin.Slice.sliceAdjust none none (-1) (n : Int) = ((n : Int) - 1, -1) := by
  unfold Builtin.Slice.sliceAdjust
  simp
theorem places_rev (n : Nat) : Builtin.Slice.slicePlaces ((n : Int) - 1) (-1) (-1) = n := by
  unfold Builtin.Slice.slicePlaces
  by_cases h : n = 0
  · subst h; decide
  · have h1 : ¬ ((-1 : Int) > 0) := by decide
    have h2 : (-1 : Int) < (n : Int) - 1 := by omega
    simp only [if_neg h1]
    simp
    rw [if_pos h2]
    omega
theorem fm_congr {α β : Type} {f g : α → Option β} : ∀ {l : List α}, (∀ x ∈ l, f x = g x) → l.filterMap f = l.filterMap g
  | [], _ => rfl
  | x :: l, h => by
    rw [List.filterMap_cons, List.filterMap_cons, h x List.mem_cons_self, fm_congr fun y hy => h y (List.mem_cons_of_mem _ hy)]
theorem pick_rev (xs : Array Value) : ((List.range xs.size).filterMap fun (m : Nat) => xs[((xs.size : Int) - 1 + (m : Int) * (-1)).toNat]?).toArray = xs.toList.reverse.toArray := by
  have z := pick_gen xs.toList.reverse.toArray 0 xs.size
  have ee : ((List.range xs.size).filterMap fun (m : Nat) => xs[((xs.size : Int) - 1 + (m : Int) * (-1)).toNat]?) = ((List.range xs.size).filterMap fun (m : Nat) => xs.toList.reverse.toArray[(((0 : Nat) : Int) + (m : Int) * 1).toNat]?) := by
    refine fm_congr fun m hm => ?_
    have hm' := List.mem_range.mp hm
    have e1 : ((xs.size : Int) - 1 + (m : Int) * (-1)).toNat = xs.size - 1 - m := by omega
    have e2 : (((0 : Nat) : Int) + (m : Int) * 1).toNat = m := by omega
    rw [e1, e2]
    have e3 : xs.toList.reverse.toArray[m]? = xs.toList.reverse[m]? := List.getElem?_toArray
    rw [e3, List.getElem?_reverse (by rw [Array.length_toList]; exact hm'), Array.length_toList, Array.getElem?_toList]
  rw [ee, z]
  show (List.take xs.size (List.drop 0 xs.toList.reverse)).toArray = _
  rw [List.drop_zero, List.take_of_length_le (by rw [List.length_reverse, Array.length_toList]; omega)]
theorem sliceApplied_rev {sl : Addr} {vl vu vs : Value} {n : Nat} {Q : Int × Int × Nat → Shared → Prop} (hs : s.heap.IsSliceOf sl vl vu vs) (pl : IsPart vl none) (pu : IsPart vu none) (ps : IsPart vs (some (-1)))
    (h : Q ((n : Int) - 1, -1, n) s) : wpAny (model prog w) A (Builtin.Slice.sliceApplied (.ref sl) (pure (n : Int))) Q E s := by
  obtain ⟨os, h1, h2, h3⟩ := id hs
  unfold Builtin.Slice.sliceApplied Builtin.Slice.sliceFields
  refine wpAny_bind (wpAny_bind (wpAny_field h1 h3 (x := vl) rfl (wpAny_bind (wpAny_field h1 h3 (x := vu) rfl (wpAny_bind (wpAny_field h1 h3 (x := vs) rfl (wpAny_pure ?_)))))))
  refine wpAny_bind (slicePart_ ps ?_)
  show wpAny _ _ (if ((-1 : Int) == 0) = true then _ else _) _ _ s
  rw [if_neg (show ¬ ((-1 : Int) == 0) = true by decide)]
  refine wpAny_bind (slicePart_ pl ?_)
  refine wpAny_bind (slicePart_ pu ?_)
  refine wpAny_bind (wpAny_pure ?_)
  show wpAny _ _ (match Builtin.Slice.sliceAdjust none none (-1) (n : Int) with | (a, b) => pure (a, (-1 : Int), Builtin.Slice.slicePlaces a b (-1))) _ _ s
  rw [adjust_rev n]
  show wpAny _ _ (pure ((n : Int) - 1, (-1 : Int), Builtin.Slice.slicePlaces ((n : Int) - 1) (-1) (-1))) _ _ s
  rw [places_rev]
  exact wpAny_pure h
theorem getItem_tuple_rev {t sl : Addr} {items : Array Value} {vl vu vs : Value} {Q : Value → Shared → Prop} (ht : IsTup s.heap t items) (hs : s.heap.IsSliceOf sl vl vu vs) (pl : IsPart vl none) (pu : IsPart vu none) (ps : IsPart vs (some (-1)))
    (h : Q (.ref s.heap.objs.size) { s with heap := s.heap.push { cls := .type "tuple", data := .seq items.toList.reverse.toArray } }) (hsz : items.size ≤ sizeLine) : wpAny (model prog w) A (getItem (.ref t) (.ref sl)) Q E s := by
  have fits : sizeOk (.seq items.toList.reverse.toArray) := by
    show items.toList.reverse.toArray.size ≤ sizeLine
    rw [List.size_toArray, List.length_reverse, Array.length_toList]
    exact hsz
  obtain ⟨os, h1, h2, h3⟩ := id hs
  have isSl : s.TypeIs (.ref sl) "slice" := ⟨os, h1, h2⟩
  unfold getItem
  try with_reducible refine wpAny_holding ?_
  first | refine wpAny_bind (wpAny_pure ?_) | skip
  refine wpAny_bind (wpAny_sequenceKey ht.typeIs (by decide) ?_)
  refine wpAny_bind (wpAny_callSpecial?_slot (name := Str.ofString "__getitem__") ht.typeIs PyProof.Rows.slot_tuple_getitem (wpAny_call_entry PyProof.Rows.slot_tuple_getitem ht.typeIs entry_tuple_getitem ?_ (args_tuple_getitem _ _)))
  show wpAny _ _ (Builtin.Tuple.tupleItemsOf (.ref t) >>= _) _ _ s
  refine wpAny_bind (tupleItemsOf_ ht ?_)
  refine wpAny_bind (wpAny_typeOf isSl ?_)
  rw [if_pos (by decide)]
  refine wpAny_bind (sliceApplied_rev hs pl pu ps ?_)
  have hno : ¬ (((items.size : Int) - 1 == 0 && (-1 : Int) == 1 && items.size == items.size) = true) := by
    intro q
    rw [Bool.and_eq_true, Bool.and_eq_true] at q
    exact absurd q.1.2 (by decide)
  show wpAny _ _ (if ((items.size : Int) - 1 == 0 && (-1 : Int) == 1 && items.size == items.size) = true then _ else _) _ _ s
  rw [if_neg hno, pick_rev]
  first
  | exact wpAny_bind (m := Builtin.Tuple.tupleExact _) (wpAny_newObj_type (wpAny_pure ⟨_, rfl, wpAny_pure h⟩) fits)
  | exact wpAny_bind (m := Builtin.Tuple.tupleExact _) (wpAny_newObj_type (wpAny_bind (wpAny_pure (wpAny_pure ⟨_, rfl, wpAny_pure h⟩))) fits)
  | exact wpAny_bind (wpAny_bind (m := Builtin.Tuple.tupleExact _) (wpAny_newObj_type (wpAny_pure (wpAny_pure ⟨_, rfl, wpAny_pure h⟩)) fits))
  | exact wpAny_bind (wpAny_bind (m := Builtin.Tuple.tupleExact _) (wpAny_newObj_type (wpAny_pure ⟨_, rfl, wpAny_pure h⟩) fits))
end
section
variable {X : Cx} {E : XK} {K : Frag}
def tRevT (K : Frag) (te : TE) : TE := fun σ H Q => te σ H fun x H1 => ∃ a xs, x = .ref a ∧ SqT K H1 a xs ∧ ∀ p, H1 p = none → Q (.ref p) (upd H1 p (.tup xs.reverse))
theorem pe_revT {e : Expr} {te : TE} {k : Nat} {p1 p2 p3 pos : Pos} (he : PE X e te) : PE X (.Subscript e (.Slice none none (some (.UnaryOp .USub (.Constant (.int 1) k p1) p2)) p3) pos) (tRevT X.K te) := by
  refine ⟨fun pins s σ H Q I h => Subscript_ (thn (he.run pins s σ H _ I h) fun v s1 ⟨x, H1, I1, r1, q1⟩ => ?_)⟩
  obtain ⟨a, xs, rfl, hx, q⟩ := q1
  cases r1
  have step : PO X (some (.UnaryOp .USub (.Constant (.int 1) k p1) p2)) (tPart (tUn (rU fun i => .int (-i)) (tC (.int 1)))) := po_some (pe_un un_neg pe_int)
  refine wpAny_Slice (thn (po_none.run pins s1 σ H1 (fun o z => o = none ∧ z = H1) I1 ⟨rfl, rfl⟩) fun vl s2 ⟨o1, H2, I2, pl, ez1, ez2⟩ => ?_)
  subst ez1; subst ez2
  refine thn (po_none.run pins s2 σ H2 (fun o z => o = none ∧ z = H2) I2 ⟨rfl, rfl⟩) fun vu s3 ⟨o2, H3, I3, pu, ez1, ez2⟩ => ?_
  subst ez1; subst ez2
  refine thn (step.run pins s3 σ H3 (fun o z => o = some (-1) ∧ z = H3) I3 ⟨1, rfl, -1, rfl, rfl, rfl⟩) fun vs s4 ⟨o3, H4, I4, ps, ez1, ez2⟩ => ?_
  subst ez1; subst ez2
  have I5 : L2.Inv X pins σ H4 { s4 with heap := s4.heap.push { cls := .type "slice", data := .fields #[vl, vu, vs] } } := I4.kept (t' := s4.toks) fun b ob z => Heap.get?_push_of_some _ z
  obtain ⟨its, r, ht, hz⟩ := I5.tuple hx
  have hlen := r.length
  show wpAny (model X.prog X.w) X.A (subscriptTail e (.Slice none none (some (.UnaryOp .USub (.Constant (.int 1) k p1) p2)) p3) (.ref a) (.ref s4.heap.objs.size)) (L2.EP X pins σ Q) X.xe { s4 with heap := s4.heap.push { cls := .type "slice", data := .fields #[vl, vu, vs] } }
  refine tail_any (ops := [.ref a, .ref s4.heap.objs.size]) ht.typeIs PyProof.Rows.slot_tuple_getitem.lookup ?_ (by with_unfolding_all rfl)
  refine getItem_tuple_rev ht (Heap.IsSliceOf.new _ vl vu vs) pl pu ps ?_ (by rw [List.size_toArray]; omega)
  refine ⟨.ref _, _, I5.laid (t' := s4.toks) (o := .tup xs.reverse) (fun b ob z => Heap.get?_push_of_some _ z) (Nat.le_refl _) ?_, rfl, q _ (I5.hok.fresh (Nat.le_refl _))⟩
  refine ⟨by rw [List.length_reverse]; exact hz, its.reverse, r.reverse, ?_⟩
  exact ⟨_, Heap.get?_push_size _ rfl, rfl, 0, rfl⟩
theorem DqAll.rev {H : Hp} : ∀ {xs : List V} {ds : List PyData}, DqAll K H xs ds → DqAll K H xs.reverse ds.reverse
  | _, _, .nil => .nil
  | _, _, .cons r t => by rw [List.reverse_cons, List.reverse_cons]; exact (DqAll.rev t).app (.one r)
def dRevT (da : DE) : DE := fun ρ cs Ed Q => da ρ cs Ed fun x cs1 => match x with
  | .tuple ds => Q (.tuple ds.reverse) cs1
  | _ => False
theorem q_revT {e : Expr} {k : Nat} {p1 p2 p3 pos : Pos} {da : DE} (ha : QE X E e da) : QE X E (.Subscript e (.Slice none none (some (.UnaryOp .USub (.Constant (.int 1) k p1) p2)) p3) pos) (dRevT da) := by
  obtain ⟨ta, a1, a2⟩ := ha.ex
  refine ⟨_, pe_revT a1, fun as σ H ρ cs Ed Qd Q w ev ek h kk => a2 as σ H ρ cs Ed _ _ w ev ek h fun v H1 x cs1 e1 w1 d1 h1 => ?_⟩
  cases d1 with
  | tup g1 g2 => exact ⟨_, _, rfl, hidT g1, fun p hp => kk _ _ _ cs1 (e1.trans (Ext.of (Same.new hp))) (w1.grow (Same.new hp)) (.tup (SqT.of (hid_new (w1.fresh hp))) (g2.rev.mono (new_mono hp))) h1⟩
  | _ => exact h1.elim
end
end Kp

namespace Kp
open PySem PySem.Spec PyProof.Rows L2
section
variable {X : Cx} {E : XK} {K : Frag}
/-! ### repr, of a text too -/
def rReprS (K : Frag) : List V → Hp → VK → Prop := fun xs H Q => (∃ x, xs = [.str x] ∧ (reprText x).length ≤ sizeLine ∧ Q (.str (reprText x)) H) ∨ rRepr K xs H Q
theorem call_repr_s (hg : X.A.guards = some []) (hu : X.A.units + 100 < cLine) : CallR X (.builtin "repr") (rReprS X.K) := by
  intro pins s σ H xs us Q I r h
  rcases h with ⟨x, rfl, hz, q⟩ | h
  · obtain ⟨u, rfl, t, rfl⟩ := vals1 r
    exact PySem.P.repr_of_str ⟨.str _, H, I.tok _, ⟨_, rfl⟩, q⟩ hz
  · exact call_repr_d hg hu pins s σ H xs us Q I r h
def cReprS : RC := fun ds Q => match ds with
  | [.bool b] => Q (.str (reprD (.bool b)))
  | [.none] => Q (.str (reprD .none))
  | [.tuple xs] => showB (.tuple xs) = true ∧ Q (.str (reprD (.tuple xs)))
  | [.list xs] => showB (.list xs) = true ∧ Q (.str (reprD (.list xs)))
  | [.int i] => i.natAbs.log2 < 1920 ∧ Q (.str (toString i))
  | [.str x] => (reprText x).length ≤ sizeLine ∧ Q (.str (reprText x))
  | _ => False
theorem sc_reprS : SC K (rReprS K) cReprS := fun as H cs vs ds Qd Q w d h k => by
  match ds, d with
  | [.bool b], d => exact .inr (sc_repr as H cs vs [.bool b] Qd Q w d h k)
  | [.none], d => exact .inr (sc_repr as H cs vs [.none] Qd Q w d h k)
  | [.int i], d => exact .inr (sc_repr as H cs vs [.int i] Qd Q w d h k)
  | [.tuple xs], d => exact .inr (sc_repr as H cs vs [.tuple xs] Qd Q w d h k)
  | [.list xs], d => exact .inr (sc_repr as H cs vs [.list xs] Qd Q w d h k)
  | [.str x], .cons (.str _) .nil => exact .inl ⟨x, rfl, h.1, k _ H _ (Same.refl H) (.str _) h.2⟩
/-! ### f(e, .., k = e) within a try -/
def tCallNW (n m : Nat) (sp : Sp) (gV : List V → List V → List V) (W : WX) (t tk : TA) : TE := fun σ H Q => t σ H fun vs H1 => tk σ H1 fun zs H2 => vs.length = n ∧ zs.length = m ∧ sp (gV vs zs) H2 Q (WE W σ)
theorem pe_callNW {k n : Nat} {f : Addr} {fd : FuncData} {ps ks : List Str} {sp : Sp} {W : WX} {x : Str} {p pos : Pos} {e : Expr} {es : List Expr} {kws : List Keyword} {t tk : TA} {g : List Value → List Value → List Value} {gV : List V → List V → List V}
    (F : FnOk X.prog X.w X.K X.mg X.base (L2.CX X.prog X.w) k f fd ps sp) (hr : Room k X.A) (hg : Gl X x) (hm : X.mg x = some (.ref f)) (hk : PySem.W.keepIn X.K (.ref f) = true) (hb : KBn X.K fd ps n ks g gV) (take : Takes X W)
    (ha : PA X (e :: es) t) (hkw : PK X kws tk) (hall : (backToKw pos (keywordEach kws X.env)).all (·.1.isSome) = true) (hks : (backToKw pos (keywordEach kws X.env)).filterMap (·.1) = ks)
    (hdb : (x == ("__debug__" : Str)) = false) (he : starEach (e :: es) X.env = (false, eval e X.env) :: starEach es X.env) (hpl : ((backTo pos (starEach (e :: es) X.env)).any (·.1) || (backToKw pos (keywordEach kws X.env)).any (·.1.isNone)) = false) :
    PE X (.Call (.Name x p) (e :: es) kws pos) (tCallNW n ks.length sp gV W t tk) := by
  refine ⟨fun pins s σ H Q I h => wpAny_Call_Name_kw (ld_glob I hg hm ?_ hdb)⟩
  refine PySem.W.callWith_KW (h₀ := X.base) I.ok.mod.kin hk hall (thn (ha.run pos pins s σ H _ I h) fun us t1 ⟨vs, H1, I1, r1, q1⟩ => thn (hkw.run pos pins t1 σ H1 _ I1 q1) fun ws t2 ⟨zs, H2, I2, r2, l1, l2, q2⟩ => ⟨I2.kIn, ?_⟩) hpl he
  rw [hks]
  refine wpAny_call (codeAny_mono (F.run X.A X.stack t2 H2 ⟨us, ks.zip ws⟩ (g us ws) (gV vs zs) Q (WE W σ) hr I2.env0 (hb.to t2 us ws I2.kIn (r1.length.symm.trans l1) (r2.length.symm.trans l2)) (hb.rel r1 r2) q2) fun res t3 hq => ?_)
  cases res with
  | error u => exact passAt take σ pins H2 t2 u t3 I2 hq
  | ok fl =>
    cases fl with
    | ret u => exact I2.after hq
    | next => exact hq.elim
    | brk => exact hq.elim
    | cont => exact hq.elim
def dCallKeW (n : Nat) (f : FD) (da : DA) (dv : DE) : DE := fun ρ cs Ed Q => da ρ cs X0 fun ss cs1 => dv ρ cs1 X0 fun x cs2 => ss.length = n ∧ f (ss ++ [.d x]) cs2 Ed Q
theorem w_callZe {W : WX} {k n : Nat} {name kw : Str} {ps : List Str} {f : FD} {e v : Expr} {es : List Expr} {p pos kpos : Pos} {da : DA} {dv : DE} (hv : QE X E0 v dv) (F : CalZ X.prog X.w X.K X.mg X.base k name ps n kw f) (hr : Room k X.A) (take : Takes X W) (ha : QA X E0 (e :: es) da)
    (hg : Gl X name := by rfl) (hdb : (name == ("__debug__" : Str)) = false := by decide) (he : starEach (e :: es) X.env = (false, eval e X.env) :: starEach es X.env := by rfl)
    (hall : (backToKw pos (keywordEach [⟨some kw, v, kpos⟩] X.env)).all (·.1.isSome) = true := by rfl) (hks : (backToKw pos (keywordEach [⟨some kw, v, kpos⟩] X.env)).filterMap (·.1) = [kw] := by rfl)
    (hpl : ((backTo pos (starEach (e :: es) X.env)).any (·.1) || (backToKw pos (keywordEach [⟨some kw, v, kpos⟩] X.env)).any (·.1.isNone)) = false := by rfl) :
    QEw X W (.Call (.Name name p) (e :: es) [⟨some kw, v, kpos⟩] pos) (dCallKeW n f da dv) := by
  obtain ⟨a, fd, ds, h1, h2, h3, h4, h5, h6⟩ := F.ex
  obtain ⟨ta, a1, a2⟩ := ha.ex
  obtain ⟨tv, v1, v2⟩ := hv.ex
  refine ⟨_, pe_callNW h3 hr hg h1 h2 h6 take a1 (pk_cons v1 pk_nil) hall hks hdb he hpl, fun as σ H ρ cs Ed Qd Q w ev ek h kk => a2 as σ H ρ cs X0 _ _ w ev ekF h fun vs H1 ss cs1 e1 w1 d1 q1 => v2 as σ H1 ρ cs1 X0 _ _ w1 (ev.ext e1) ekF q1 fun u H2 x cs2 e2 w2 d2 q2 => ?_⟩
  refine ⟨(pr_len d1).trans q2.1, rfl, ?_⟩
  exact ⟨as, ss ++ [.d x], cs2, Ed, Qd, w2, ar_app (d1.ext e2) (.cons (show SlOk X.K H2 as (some u) (.d x) ∧ Sl.d x ≠ .no from ⟨⟨u, rfl, d2⟩, fun z => by cases z⟩) .nil), (ek.ext e1).ext e2, q2.2, fun v' H' x' cs' e3 w3 d3 q3 => kk v' H' x' cs' ((e1.trans e2).trans e3) w3 d3 q3⟩
end
end Kp

namespace Kp
open PySem PySem.Spec PyProof.Rows L2
open Sem (wp)
/-! ### enumerate of a tuple -/
abbrev tiO (l : Addr) : Obj := { cls := .type "tuple_iterator", data := .fields #[.ref l, .int 0 0] }
abbrev enO (n : Nat) : Obj := { cls := .type "enumerate", data := .fields #[.none, .bool false, .ref n, rawInt 0, .none, .none] }
theorem en_meets (l : Addr) (its : Array Value) : Meets (Builtin.«enumerate.__new__» ⟨[.type "enumerate", .ref l], []⟩) fun _ R s => s.heap.IsTuple l its ∧
    R (.ok (.ret (.ref (s.heap.push (tiO l)).objs.size))) { s with heap := (s.heap.push (tiO l)).push (enO s.heap.objs.size) } :=
  .of_wp fun prog w A R s h => by
    obtain ⟨h0, s1, s2, s3, s4⟩ := s
    obtain ⟨ht, hr⟩ := h
    have sube := sub_enumerate
    obtain ⟨⟨tc, tdc, tdt, tsl⟩, t1, t2, tn, t3⟩ := id ht
    cases (show tc = _ from t2)
    cases (show tdt = _ from t3)
    have go : ∀ {A' : Around} {E Q : Value → Shared → Prop}, Q (.ref h0.objs.size) ⟨h0.push (tiO l), s1, s2, s3, s4⟩ → wpAny (model prog w) A' (pyIter (.ref l)) Q E ⟨h0, s1, s2, s3, s4⟩ := fun q => wpAny_pyIter_tuple (s := ⟨h0, s1, s2, s3, s4⟩) ht q
    wp_walk using AutoSeq1.wpAny_loadPart' t1
    refine wpAny_stack_any fun st => wpAny_pure ?_
    split
    · rename_i c _ _ _ _ _
      cases (c == Value.type "enumerate") <;> (wp_walk using AutoSeq1.wpAny_loadPart' t1, go; exact ⟨_, rfl, hr⟩)
    · wp_walk using AutoSeq1.wpAny_loadPart' t1, go
      exact ⟨_, rfl, hr⟩
section
variable {prog : Program} {w : World} {A : Around} {E : Value → Shared → Prop} {s : Shared}
theorem en_call {l : Addr} {its : Array Value} {Q : Value → Shared → Prop} (ht : s.heap.IsTuple l its)
    (h : ∀ h', IsEnum h' (s.heap.objs.size + 1) s.heap.objs.size 0 .none → h'.IsTupleIter s.heap.objs.size l 0 → (∀ b o, s.heap.get? b = some o → h'.get? b = some o) → Q (.ref (s.heap.objs.size + 1)) { s with heap := h' }) :
    wpAny (model prog w) A (call (.type "enumerate") [.ref l]) Q E s := by
  refine callType_new F.called_enumerate (by decide) (F.typeCall_enumerate_1 _) (F.newCall_enumerate_1 _) (fun obj => F.args_object_init_2 obj _) F.entry_enumerate_new (en_meets l its) ⟨ht, ?_⟩
  have z0 : (s.heap.push (tiO l)).objs.size = s.heap.objs.size + 1 := Heap.size_push ..
  show _ ∧ _
  rw [z0]
  have z1 : IsEnum ((s.heap.push (tiO l)).push (enO s.heap.objs.size)) (s.heap.objs.size + 1) s.heap.objs.size 0 .none := by
    have z := Heap.get?_push_size (s.heap.push (tiO l)) (o := enO s.heap.objs.size) rfl
    rw [z0] at z
    exact z
  exact ⟨⟨_, z1, rfl⟩, h _ z1 ⟨_, Heap.get?_push_of_some _ (Heap.get?_push_size _ rfl), rfl, rfl⟩ fun b o x => Heap.get?_push_of_some _ (Heap.get?_push_of_some _ x)⟩
end
/-- the tuple at a by its items, each in a new pair behind its number -/
def Itet (K : Frag) (a : Addr) : It :=
  ⟨fun i H => ∃ (xs : List V) (x : V), SqT K H a xs ∧ xs[i]? = some x, fun i H v H' => ∃ T x, v = .ref T ∧ H T = none ∧ H' = upd H T (.tup [.int (i : Nat), x]) ∧ ∀ xs, SqT K H a xs → xs[i]? = some x, fun i H => ∃ xs : List V, SqT K H a xs ∧ xs.length ≤ i⟩
def StE (a e it : Addr) (i : Nat) (h : Heap) : Prop := (∃ old, IsEnum h e it ((i : Nat) : Int) old) ∧ h.IsTupleIter it a i ∧ e ≠ it
theorem cls_ne {h : Heap} {a b : Addr} {o p : Obj} (h1 : h.get? a = some o) (h2 : h.get? b = some p) (c : o.cls ≠ p.cls) : a ≠ b := fun z => by
  rw [z, h2] at h1
  exact c (congrArg Obj.cls (Option.some.inj h1)).symm
theorem turn_et {P : Program} {w : World} {K : Frag} {elts : List Expr} {kk : Nat} {tpos : Pos} (a e it : Addr) : Turn P w K (.Tuple elts kk tpos) (Itet K a) [e, it] e (StE a e it) where
  mem := List.mem_cons_self
  obj := fun i h st b hb => by
    obtain ⟨⟨old, z1⟩, ⟨o, z2, z3, z4⟩, z5⟩ := st
    rcases List.mem_cons.mp hb with q | q
    · rw [q]
      exact ⟨_, z1, fun v x => nomatch x⟩
    · rw [List.mem_singleton.mp q]
      exact ⟨o, z2, fun v x => by rw [z4] at x; cases x⟩
  keep := fun i h h' st k => ⟨st.1.elim fun old z => ⟨old, k e List.mem_cons_self _ z⟩, st.2.1.at fun o q => k it (List.mem_cons_of_mem _ List.mem_cons_self) o q, st.2.2⟩
  item := by
    intro X hP hw hK hc i pins s σ H E I hf st hg
    subst hP hw hK
    obtain ⟨⟨old, z1⟩, z2, z3⟩ := st
    obtain ⟨xs, x, g1, g2⟩ := hg
    obtain ⟨its, rv, p, hz⟩ := I.tuple g1
    obtain ⟨u, hu, ru⟩ := rv.get g2
    obtain ⟨ot, ot1, ot2, -⟩ := id p
    obtain ⟨oi, oi1, oi2, -⟩ := id z2
    have nai : a ≠ it := cls_ne ot1 oi1 (by rw [show ot.cls = .type "tuple" from ot2, show oi.cls = .type "tuple_iterator" from oi2]; exact fun z => absurd (Value.type.inj z) (by decide))
    have nea : e ≠ a := cls_ne z1 ot1 (by rw [show ot.cls = .type "tuple" from ot2]; exact fun z => absurd (Value.type.inj z) (by decide))
    have len := rv.length
    obtain ⟨hi, -⟩ := List.getElem?_eq_some_iff.mp g2
    have el : e < s.heap.objs.size := Heap.lt_size z1
    have il : it < s.heap.objs.size := Heap.lt_size oi1
    refine wpAny_pyNext_enum_itemD (n := its.toArray.size) (Draws.tuple (A := X.A.in1) (show X.A.in1.handled = none from I.ok.hd hc) it a nai its.toArray) z1 ⟨z2, p⟩ (by simpa using (by omega : i < its.length)) z3 (fun q => by rcases List.mem_cons.mp q with q | q; exact z3 q; exact nea (List.mem_singleton.mp q)) fun y h' tk hy ho st' hT hsz hk => ?_
    obtain rfl : y = u := by
      have q : its.toArray[i]? = some y := hy
      rw [List.getElem?_toArray, hu] at q
      exact (Option.some.inj q).symm
    refine ⟨_, rfl, wpAny_letOwnedTupleGo_enum (s := { s with heap := h', toks := tk + 1 }) ho fun h'' he' sb => ?_⟩
    have hT2 : h''.get? s.heap.objs.size = some { cls := .type "tuple", data := .seq #[.int i tk, y] } := (sb.2 _ (Nat.ne_of_gt el)).trans hT
    have ok : ObjOk X.prog X.w (upd H s.heap.objs.size (.tup [.int (i : Nat), x])) h'' s.heap.objs.size (.tup [.int (i : Nat), x]) := ⟨show 2 ≤ sizeLine by decide, [.int i tk, y], .cons ⟨_, rfl⟩ (.cons ru .nil), ⟨_, hT2, rfl, _, rfl⟩⟩
    have J : Inv X pins σ (upd H s.heap.objs.size (.tup [.int (i : Nat), x])) { s with heap := h'', toks := tk + 1 } :=
      I.turnedNew (ch := [e, it]) (fun b ob hb q => (sb.2 b fun z => hb (by rw [z]; exact List.mem_cons_self)).trans (hk b ob (fun z => hb (by rw [z]; exact List.mem_cons_self)) (fun z => hb (by rw [z]; exact List.mem_cons_of_mem _ List.mem_cons_self)) q)) hf (Nat.le_refl _) ok
    refine ⟨.ref s.heap.objs.size, _, J, rfl, ⟨_, x, rfl, I.hok.fresh (Nat.le_refl _), rfl, fun ys hy => by rw [I.tuple_inj hy g1]; exact g2⟩, ⟨⟨y, ?_⟩, st'.1.at fun o q => (sb.2 it (Ne.symm z3)).trans q, z3⟩, fun b hb => ?_⟩
    · rw [show ((i + 1 : Nat) : Int) = (i : Int) + 1 by omega]
      exact he'
    · have bl : b < s.heap.objs.size := by
        rcases List.mem_cons.mp hb with q | q
        · rw [q]; exact el
        · rw [List.mem_singleton.mp q]; exact il
      rw [upd_ne (Nat.ne_of_lt bl)]
      exact (hf b hb).1
  done := by
    intro X hP hw hK hc i pins s σ H E I hf st hg
    subst hP hw hK
    obtain ⟨⟨old, z1⟩, z2, z3⟩ := st
    obtain ⟨xs, g1, g2⟩ := hg
    obtain ⟨its, rv, p, hz⟩ := I.tuple g1
    obtain ⟨f0, f1, f2, f3, f4, f5⟩ := hf it (List.mem_cons_of_mem _ List.mem_cons_self)
    have len := rv.length
    have D0 : Draws X.prog X.w X.A.in1 it [it, a] 0 (fun _ _ => False) (fun _ h => h.IsTupleIter it a i ∧ h.IsTuple a its.toArray) :=
      { live := fun _ _ st => st.1.elim fun o z => ⟨o, z.1⟩
        frame := fun _ _ _ st k => ⟨st.1.at fun o q => k it List.mem_cons_self o q, st.2.at fun o q => k a (List.mem_cons_of_mem _ List.mem_cons_self) o q⟩
        item := fun j s Q E z => absurd z (Nat.not_lt_zero _)
        done := fun s Q E st hE => wpAny_nextOf_tuple_end (show X.A.in1.handled = none from I.ok.hd hc) st.1 st.2 (by simp; omega) hE }
    exact wpAny_pyNext_enum_endD D0 z1 ⟨z2, p⟩ fun h' eb => ⟨rfl, I.turned (t' := s.toks) (fun b o hb q => eb b o hb q) f0 f1 f3 f4 f5⟩
  self := fun A i s Q E st h => st.1.elim fun _ z => wpAny_pyIter_enum z h
def iEnumT (K : Frag) (ta : TA) : TI := fun σ H R => ta σ H fun vs H1 => ∃ a xs, vs = [.ref a] ∧ ((SqL K H1 a xs ∧ R (Ite K a) H1) ∨ (SqT K H1 a xs ∧ R (Itet K a) H1))
theorem pi_et {X : Cx} {e : Expr} {ta : TA} {p pos tpos : Pos} {elts : List Expr} {kk : Nat} (hg : Gl X "enumerate") (hm : X.mg "enumerate" = none) (ha : PA X [e] ta) (hs : starEach [e] X.env = [(false, eval e X.env)] := by rfl) :
    PI X (.Tuple elts kk tpos) (.Call (.Name "enumerate" p) [e] [] pos) (iEnumT X.K ta) := by
  refine ⟨fun pins s σ H R I h => ?_⟩
  refine Call_ (ld_blt I hg hm boot_enumerate (PyProof.Rows.callWith_type1 (thn (ha.run pos pins s σ H _ I h) fun us s1 ⟨vs, H1, I1, r1, q1⟩ => ?_) hs rfl))
  obtain ⟨a, xs, rfl, q1⟩ := q1
  obtain ⟨u, rfl, r2⟩ := vals1 r1
  obtain rfl : u = Value.ref a := r2
  have fp : ∀ b ∈ [s1.heap.objs.size + 1, s1.heap.objs.size], s1.heap.objs.size ≤ b := fun b hb => by
    rcases List.mem_cons.mp hb with z | z
    · rw [z]; exact Nat.le_succ _
    · rw [List.mem_singleton.mp z]; exact Nat.le_refl _
  rcases q1 with ⟨hq, q⟩ | ⟨hq, q⟩
  · obtain ⟨its, rv, p', hz⟩ := I1.list hq
    refine call_enumerate_list p'.isList fun h' he hit hsz hk => wpAny_pyIter_enum he ⟨s1.heap.objs.size + 1, [s1.heap.objs.size + 1, s1.heap.objs.size], _, _, H1, rfl, I1.kept (t' := s1.toks) hk, turn_enum a (s1.heap.objs.size + 1) s1.heap.objs.size, ⟨⟨.none, he⟩, hit, Nat.succ_ne_self _⟩, fun b hb => ?_, q⟩
    exact I1.fpOk (fp b hb) (I1.hok.fresh (fp b hb))
  · obtain ⟨its, rv, p', hz⟩ := I1.tuple hq
    refine en_call (show s1.heap.IsTuple a its.toArray from p') fun h' he hit hk => wpAny_pyIter_enum he ⟨s1.heap.objs.size + 1, [s1.heap.objs.size + 1, s1.heap.objs.size], _, _, H1, rfl, I1.kept (t' := s1.toks) hk, turn_et a (s1.heap.objs.size + 1) s1.heap.objs.size, ⟨⟨.none, he⟩, hit, Nat.succ_ne_self _⟩, fun b hb => ?_, q⟩
    exact I1.fpOk (fp b hb) (I1.hok.fresh (fp b hb))
/-! ### [.. for n, x in enumerate(xs) if ..] -/
section
variable {K : Frag} {E : XK} {X : Cx}
/-- a walk beside a list that is being made, where a turn may make something new -/
def ItW (K : Frag) (as : List CA) (H1 : Hp) (J : It) (n : Nat) (item : Nat → PyData) : Prop := ∀ (D : Addr) (H' : Hp) (cs' : CS), H1 D = none → Ext as H1 H' → Wk K H' (cl D :: as) cs' →
  (∀ i, i < n → J.go i H' ∧ ∀ x H3, J.yld i H' x H3 → Ext (cl D :: as) H' H3 ∧ Wk K H3 (cl D :: as) cs' ∧ Dq K (hid H3 (cl D :: as)) x (item i)) ∧ J.stop n H'
def prI (ds : List PyData) (i : Nat) : PyData := .tuple [.int i, nth ds i]
theorem pr_new {as : List CA} {H : Hp} {cs : CS} {T : Addr} {i : Nat} {z : V} {xs : List V} {ds : List PyData} (w : Wk K H as cs) (hT : H T = none) (hx : xs[i]? = some z) (q : DqAll K (hid H as) xs ds) :
    Ext as H (upd H T (.tup [.int (i : Nat), z])) ∧ Wk K (upd H T (.tup [.int (i : Nat), z])) as cs ∧ Dq K (hid (upd H T (.tup [.int (i : Nat), z])) as) (.ref T) (prI ds i) := by
  obtain ⟨dz, k1, k2⟩ := q.get' hx
  have en : nth ds i = dz := by unfold nth; rw [List.getD_eq_getElem?_getD, k1]; rfl
  refine ⟨Ext.of (Same.new hT), w.grow (Same.new hT), .tup (SqT.of (hid_new (w.fresh hT))) (.cons (.int _) (.cons ?_ .nil))⟩
  rw [en]
  exact k2.mono (new_mono hT)
theorem itw_l {as : List CA} {H : Hp} {a : Addr} {xs : List V} {ds : List PyData} (h : hid H as a = some (.lst xs)) (d : DqAll K (hid H as) xs ds) : ItW K as H (Ite K a) ds.length (prI ds) := fun D H' cs' hD e w => by
  have fD : ∀ {H' : Hp}, Nw H H' [cl D] := Nw.lst hD
  have h' : SqL K H' a xs := SqL.of (hid1 (e.hid _ _ h))
  have d' := d.mono (same_sh (ex := [cl D]) fD e)
  refine ⟨fun i hi => ⟨?_, fun x H3 y => ?_⟩, xs, h', by rw [d.len]; exact Nat.le_refl _⟩
  · have hx : i < xs.length := by rw [d.len]; exact hi
    exact ⟨xs, xs[i], h', List.getElem?_eq_getElem hx⟩
  · obtain ⟨T, z, rfl, hT, rfl, hz⟩ := y
    exact pr_new w hT (hz xs h') d'
theorem itw_t {as : List CA} {H : Hp} {a : Addr} {xs : List V} {ds : List PyData} (h : SqT K (hid H as) a xs) (d : DqAll K (hid H as) xs ds) : ItW K as H (Itet K a) ds.length (prI ds) := fun D H' cs' hD e w => by
  have fD : ∀ {H' : Hp}, Nw H H' [cl D] := Nw.lst hD
  have h' : SqT K H' a xs := hidT (same_t e.hid h)
  have d' := d.mono (same_sh (ex := [cl D]) fD e)
  refine ⟨fun i hi => ⟨?_, fun x H3 y => ?_⟩, xs, h', by rw [d.len]; exact Nat.le_refl _⟩
  · have hx : i < xs.length := by rw [d.len]; exact hi
    exact ⟨xs, xs[i], h', List.getElem?_eq_getElem hx⟩
  · obtain ⟨T, z, rfl, hT, rfl, hz⟩ := y
    exact pr_new w hT (hz xs h') d'
def SIW (K : Frag) (E : XK) (wi : TI) (d : DI) : Prop := ∀ (as : List CA) (σ : L2.St) (H : Hp) (ρ : List Sl) (cs : CS) (Ed : XD) (Qd : Nat → (Nat → PyData) → CS → Prop) (R : It → Hp → Prop),
  Wk K H as cs → Ev K H as σ ρ → EK K E Ed as H → d ρ cs Ed Qd → (∀ J H' n item cs', Ext as H H' → Wk K H' as cs' → ItW K as H' J n item → Qd n item cs' → R J H') → wi σ H R
def iEnD (da : DE) : DI := fun ρ cs Ed Q => da ρ cs Ed fun x cs1 => match x with
  | .tuple ds => Q ds.length (prI ds) cs1
  | .list ds => Q ds.length (prI ds) cs1
  | _ => False
theorem siw_en {ta : TE} {da : DE} (a2 : SE K E ta da) : SIW K E (iEnumT K (tCons ta tNil)) (iEnD da) := fun as σ H ρ cs Ed Qd R w ev ek h k => a2 as σ H ρ cs Ed _ _ w ev ek h fun v H1 x cs1 e1 w1 d1 h1 => by
  cases d1 with
  | lst g1 g2 => exact ⟨_, _, rfl, .inl ⟨SqL.of (hid1 g1), k _ H1 _ _ cs1 e1 w1 (itw_l g1 g2) h1⟩⟩
  | tup g1 g2 => exact ⟨_, _, rfl, .inr ⟨hidT g1, k _ H1 _ _ cs1 e1 w1 (itw_t g1 g2) h1⟩⟩
  | _ => exact h1.elim
theorem lc_coreW {wi : TI} {is : List Nat} {tt : TT} {te : TE} {di : DI} {dt : DT} {de : DE} (i2 : SIW K E wi di) (t2 : ST K E0 tt dt) (e2 : SE K E0 te de) : SN K E (tLc wi (gTup K is.length (gNames is)) tt te is) (dLcT di is dt de) := fun as σ H ρ cs Ed Qd Q w ev ek h k =>
  i2 as σ H ρ cs Ed _ _ w ev ek h fun J H1 n item cs1 e1 w1 it h1 D hD => by
    obtain ⟨Inv, h0, hs, hd⟩ := h1
    have ev1 := ev.ext e1
    have w0 : Wk K (upd H1 D (.lst [])) (cl D :: as) ([] :: cs1) := w1.newc hD .nil
    have e0 : ∀ {H'}, Ext (cl D :: as) (upd H1 D (.lst [])) H' → Ext as H1 H' := fun {H'} q => Ext.cut (ex := [cl D]) (Nw.lst hD) (Ext.of (Same.new hD)) q
    refine ⟨fun t m H' => m = n - t ∧ t ≤ n ∧ ∃ acc cs', Ext (cl D :: as) (upd H1 D (.lst [])) H' ∧ Wk K H' (cl D :: as) (acc :: cs') ∧ Inv t acc cs', ⟨n, by simp, Nat.zero_le _, [], cs1, Ext.refl, w0, h0⟩, ?_⟩
    rintro t m H2 ⟨rfl, ht, acc, cs2, x2, w2, q2⟩
    have fD : ∀ {H' : Hp}, Nw H1 H' [cl D] := Nw.lst hD
    obtain ⟨z1, z2⟩ := it D H2 _ hD (e0 x2) w2
    by_cases hlt : t < n
    · obtain ⟨z3, z4⟩ := z1 t hlt
      refine .inr ⟨z3, fun H' => ∃ acc cs', Ext (cl D :: as) (upd H1 D (.lst [])) H' ∧ Wk K H' (cl D :: as) (acc :: cs') ∧ Inv (t + 1) acc cs', fun H' q => ⟨n - (t + 1), by omega, rfl, hlt, q⟩, fun x H3 y => ?_⟩
      obtain ⟨e3, w3, dx⟩ := z4 x H3 y
      have x3 := x2.trans e3
      obtain ⟨ρ', p1, p2⟩ := hs t acc cs2 hlt q2
      have evs : Ev K H3 (cl D :: as) σ (ρ.map (shSl 1)) := Ev.sh (ex := [cl D]) fD ev1 (e0 x3)
      cases hit : item t with
      | tuple ds =>
        rw [hit] at dx p1
        cases dx with
        | tup g1 g2 =>
          rename_i a xs
          have p1' : setAll is ds (ρ.map (shSl 1)) = some ρ' := p1
          have hlen : xs.length = is.length := by rw [g2.len]; exact setAll_len p1'
          have ev3 : Ev K H3 (cl D :: as) (setV is xs (wipe σ is)) ρ' := by
            rw [setV_eq is xs (wipe σ is) σ hlen (wipe_length σ is) fun k hk => by rw [wipe_at, if_neg hk]]
            exact ev_setV evs g2 p1'
          refine ⟨a, xs, rfl, hidT g1, hlen, names_okV (as := cl D :: as) hlen ⟨wipe_setV is xs σ, ?_⟩⟩
          refine t2 (cl D :: as) _ H3 _ (acc :: cs2) X0 _ _ w3 ev3 ek0 p2 fun b H4 cs4 e4 w4 h4 => ?_
          cases b with
          | true =>
            refine iteT (e2 (cl D :: as) _ H4 _ cs4 X0 _ _ w4 (ev3.ext e4) ek0 (show de _ cs4 X0 _ by simpa using h4) fun y' H5 yd cs5 e5 w5 d5 h5 => ?_)
            obtain ⟨acc5, cs5', xs5, rfl, g1, g2⟩ := w5.head
            obtain ⟨h6, h7⟩ := h5
            exact ⟨xs5, g1, by rw [g2.len]; exact h6, _, _, ((x3.trans e4).trans e5).trans (ext_upd w5 (j := 0) rfl), w5.put (j := 0) rfl (g2.app (.one d5)), h7⟩
          | false =>
            obtain ⟨acc5, cs5', xs5, rfl, g1, g2⟩ := w4.head
            exact iteF ⟨_, _, x3.trans e4, w4, by simpa using h4⟩
      | _ => rw [hit] at p1; cases p1
    · have e : t = n := by omega
      subst e
      exact .inl ⟨z2, k D H2 acc cs2 (e1.trans (e0 x2)) (fresh_of w1 e1 hD) w2 (hd acc cs2 q2)⟩
theorem q_lcE {elt e c : Expr} {elts : List Expr} {kk : Nat} {tpos p p2 : Pos} {scope : Scope} {pos : Pos} {da : DE} {dt : DT} {de : DE} {own : List (Str × Nat)} (hc : X.calm = true) (hN : X.N.Nodup) (hm : X.mg "enumerate" = none) (ha : QE X E e da) (ok : BlkOk X.N X.env.scope scope own)
    (hg : ∀ (s : Shared) (H : Hp) (C : Addr) (cl : List (Str × Addr)) (fp : List Addr), PG (X.blk s H scope (compEnvC scope cl C X.env) fp) (.Tuple elts kk tpos) (gTup X.K (own.map (·.2)).length (gNames (own.map (·.2)))))
    (ht : ∀ (s : Shared) (H : Hp) (C : Addr) (cl : List (Str × Addr)) (fp : List Addr), QT (X.blk s H scope (compEnvC scope cl C X.env) fp) E0 c dt)
    (he : ∀ (s : Shared) (H : Hp) (C : Addr) (cl : List (Str × Addr)) (fp : List Addr), QE (X.blk s H scope (compEnvC scope cl C X.env) fp) E0 elt de)
    (hgl : Gl X "enumerate" := by rfl) (he0 : starEach [e] X.env = (false, eval e X.env) :: starEach [] X.env := by rfl) (hs0 : starEach [e] X.env = [(false, eval e X.env)] := by rfl)
    (hs : ∀ x, foldedSetIterable (.Call (.Name "enumerate" p) [e] [] p2) X.env x = pure x := by intro _; rfl) : QN X E (.ListComp elt [⟨.Tuple elts kk tpos, .Call (.Name "enumerate" p) [e] [] p2, [c], 0⟩] scope pos) (dLcT (iEnD da) (own.map (·.2)) dt de) := by
  obtain ⟨ta, a1, a2⟩ := ha.ex
  exact ⟨_, pe_lc (own := own) (g := gTup X.K (own.map (·.2)).length (gNames (own.map (·.2)))) (tt := tOfT X.K E0 dt) (te := tOfE X.K E0 de) hc hN (pi_et hgl hm (pa_cons a1 pa_nil he0) hs0) ok hg (fun s H C cl fp => pts_one (ht s H C cl fp).can) (fun s H C cl fp => (he s H C cl fp).can) hs, lc_coreW (siw_en a2) st_can se_can⟩
end
end Kp

namespace Kp
open PySem PySem.Spec PyProof.Rows L2
section
variable {X : Cx} {E : XK} {K : Frag}
/-! ### the greatest of a list, and where a number stands first -/
def IsMax (ns : List Int) (m : Int) : Prop := m ∈ ns ∧ ∀ y, y ∈ ns → y ≤ m
theorem IsMax.uniq {ns : List Int} {a b : Int} (h : IsMax ns a) (k : IsMax ns b) : a = b := Int.le_antisymm (k.2 a h.1) (h.2 b k.1)
theorem has_max : ∀ {ns : List Int}, 0 < ns.length → ∃ m, IsMax ns m
  | [], h => absurd h (Nat.lt_irrefl 0)
  | [a], _ => ⟨a, List.mem_singleton.mpr rfl, fun y hy => by rw [List.mem_singleton.mp hy]; exact Int.le_refl _⟩
  | a :: b :: r, _ => by
    obtain ⟨m, h1, h2⟩ := has_max (ns := b :: r) (by simp)
    rcases Int.le_total a m with z | z
    · exact ⟨m, List.mem_cons_of_mem _ h1, fun y hy => (List.mem_cons.mp hy).elim (fun q => by rw [q]; exact z) (h2 y)⟩
    · exact ⟨a, List.mem_cons_self, fun y hy => (List.mem_cons.mp hy).elim (fun q => by rw [q]; exact Int.le_refl _) fun q => Int.le_trans (h2 y q) z⟩
def cMax1 : RC := fun ds Q => match ds with
  | [.list xs] => ∃ ns : List Int, xs = ns.map .int ∧ 0 < ns.length ∧ ∀ m, IsMax ns m → Q (.int m)
  | _ => False
theorem sc_max1 : SC K (rMax K) cMax1 := fun as H cs vs ds Qd Q w d h k => by
  match ds, d with
  | [.list xs], .cons (.lst h1 h2) .nil =>
    obtain ⟨bs, rfl, h3, h4⟩ := h
    have e := dq_ints' bs h2
    subst e
    exact ⟨_, bs, rfl, SqL.of (hid1 h1), h3, fun m m1 m2 => k _ H _ (Same.refl H) (.int _) (h4 m ⟨m1, m2⟩)⟩
theorem ints_flat : ∀ ns : List Int, (ns.map V.int).all flatV = true
  | [] => rfl
  | b :: bs => by
    show (true && (bs.map V.int).all flatV) = true
    rw [ints_flat bs]; rfl
/-- where m stands first -/
theorem slot_ints {as : List CA} {σ : L2.St} {H : Hp} {ρ : List Sl} {cs : CS} {i : Nat} {ns : List Int} (w : Wk K H as cs) (ev : Ev K H as σ ρ) (h : ρ[i]? = some (.d (.list (ns.map .int)))) : ∃ a, σ[i]? = some (some (.ref a)) ∧ ∀ H', Ext as H H' → SqL K H' a (ns.map V.int) := by
  obtain ⟨o, ho, hs⟩ := pr_get ev h
  obtain ⟨v, rfl, hv⟩ := hs
  cases hv with
  | lst h1 h2 =>
    have e := dq_ints' ns h2
    subst e
    exact ⟨_, ho, fun H' e => SqL.of (hid1 (e.hid _ _ h1))⟩
def dIdxI (i : Nat) (da : DE) : DE := fun ρ cs Ed Q => ∃ ns : List Int, ρ[i]? = some (.d (.list (ns.map .int))) ∧ da ρ cs Ed fun x cs1 => ∃ (j : Nat) (m : Int), x = .int m ∧ ns[j]? = some m ∧ (∀ l, l < j → ns[l]? ≠ some m) ∧ Q (.int (j : Nat)) cs1
theorem q_idxI {o e : Expr} {apos cpos : Pos} {da : DE} (i : Nat) (ho : PE X o (tVar i)) (ha : QE X E e da) (hbase : attributeBase o "index" X.env (eval o X.env) = eval o X.env := by rfl)
    (hfew : ((backTo cpos (starEach [e] X.env)).all (fun x => !x.1) && (backToKw cpos (keywordEach [] X.env)).all (fun x => x.1.isSome) && decide (([e] : List Expr).length + ([] : List Keyword).length + (if ([] : List Keyword).isEmpty then 0 else 1) < 30)) = true := by rfl)
    (hline : (apos.endLine == cpos.line) = true := by rfl) (hs : starEach [e] X.env = (false, eval e X.env) :: starEach [] X.env := by rfl) (hplain : (backTo cpos (starEach [] X.env)).any (·.1) = false := by rfl) :
    QE X E (.Call (.Attribute o "index" apos) [e] [] cpos) (dIdxI i da) := by
  obtain ⟨ta, a1, a2⟩ := ha.ex
  refine ⟨_, pe_bm PySem.F.plainAttrs_list PySem.F.slot_list_index PySem.F.type_list_index mt_index ho (pa_cons a1 pa_nil hs) hbase hfew hline hs hplain, fun as σ H ρ cs Ed Qd Q w ev ek h k => ?_⟩
  obtain ⟨ns, h1, h2⟩ := h
  obtain ⟨a, g1, g2⟩ := slot_ints w ev h1
  refine ⟨_, g1, .inl ⟨rfl, _, g2 H Ext.refl⟩, a2 as σ H ρ cs Ed _ _ w ev ek h2 fun v H1 x cs1 e1 w1 d1 h3 => ?_⟩
  obtain ⟨j, m, rfl, k1, k2, k3⟩ := h3
  cases d1
  refine ⟨a, _, _, j, .int m, rfl, rfl, g2 H1 e1, rfl, ints_flat ns, by rw [List.getElem?_map, k1]; rfl, by show decide (m = m) = true; exact decide_eq_true rfl, fun l z hl hz => ?_, k _ H1 _ cs1 e1 w1 (.int _) k3⟩
  rw [List.getElem?_map] at hz
  cases q : ns[l]? with
  | none => rw [q] at hz; cases hz
  | some b =>
    rw [q] at hz
    cases hz
    have ne : b ≠ m := fun z => k2 l hl (by rw [q, z])
    show decide (b = m) = false
    exact decide_eq_false ne
/-! ### x = [.. for n, y in enumerate(ys) if ..] on one line -/
theorem q_setLcE {elt e c : Expr} {elts : List Expr} {kk : Nat} {tpos p p2 : Pos} {scope : Scope} {pos py spos : Pos} {y : Str} {da : DE} {dt : DT} {de : DE} {own : List (Str × Nat)} (i : Nat) (hc : X.calm = true) (hN : X.N.Nodup) (hm : X.mg "enumerate" = none) (ha : QE X E e da) (ok : BlkOk X.N X.env.scope scope own)
    (hg : ∀ (s : Shared) (H : Hp) (C : Addr) (cl : List (Str × Addr)) (fp : List Addr), PG (X.blk s H scope (compEnvC scope cl C X.env) fp) (.Tuple elts kk tpos) (gTup X.K (own.map (·.2)).length (gNames (own.map (·.2)))))
    (ht : ∀ (s : Shared) (H : Hp) (C : Addr) (cl : List (Str × Addr)) (fp : List Addr), QT (X.blk s H scope (compEnvC scope cl C X.env) fp) E0 c dt)
    (he : ∀ (s : Shared) (H : Hp) (C : Addr) (cl : List (Str × Addr)) (fp : List Addr), QE (X.blk s H scope (compEnvC scope cl C X.env) fp) E0 elt de)
    (hy : X.N[i]? = some y := by rfl) (hyl : X.env.scope.names.lookup y = some .local := by rfl) (hsw : swapsWith (.ListComp elt [⟨.Tuple elts kk tpos, .Call (.Name "enumerate" p) [e] [] p2, [c], 0⟩] scope pos) (some (.Name y py)) spos.line X.env = pure true := by exact sw_true rfl rfl rfl (by decide +kernel))
    (hgl : Gl X "enumerate" := by rfl) (he0 : starEach [e] X.env = (false, eval e X.env) :: starEach [] X.env := by rfl) (hs0 : starEach [e] X.env = [(false, eval e X.env)] := by rfl)
    (hs : ∀ x, foldedSetIterable (.Call (.Name "enumerate" p) [e] [] p2) X.env x = pure x := by intro _; rfl) : QS X E (.Assign [.Name y py] (.ListComp elt [⟨.Tuple elts kk tpos, .Call (.Name "enumerate" p) [e] [] p2, [c], 0⟩] scope pos) spos) (dSet i (dOfN (dLcT (iEnD da) (own.map (·.2)) dt de))) := by
  obtain ⟨ta, a1, a2⟩ := ha.ex
  refine ⟨_, ps_setLc (own := own) (g := gTup X.K (own.map fun z : Str × Nat => z.2).length (gNames (own.map fun z : Str × Nat => z.2))) (tt := tOfT X.K E0 dt) (te := tOfE X.K E0 de) hc hN hy hyl hsw (pi_et hgl hm (pa_cons a1 pa_nil he0) hs0) ok hg (fun s H C cl fp => pts_one (ht s H C cl fp).can) (fun s H C cl fp => (he s H C cl fp).can) hs, fun as σ H ρ cs D Dd w ev ek h S => (lc_coreW (siw_en a2) st_can se_can) as σ H ρ cs Dd.ex _ _ w ev ek h fun p H1 ds cs1 e1 hp w1 h1 => ?_⟩
  obtain ⟨acc, cs2, xs, g0, g1, g2⟩ := w1.head
  cases g0
  exact S.nx [] _ H1 _ _ Nw.nil e1 (Wk.drop (ex := [cl p]) w1) (ev_set (s := .d (.list _)) (ev.ext e1) i ⟨_, rfl, .lst (by rw [hid_out (Wk.apart (ex := [cl p]) w1 (j := 0) (f := cl p) rfl)]; exact g1) (g2.mono hid_cons)⟩) h1
end
end Kp

namespace Kp
open PySem PySem.Spec PyProof.Rows L2
/-! ### repr of what may hold {} (lists and {} not in one) -/
mutual
def nol : PyData → Bool
  | .none => true
  | .bool _ => true
  | .int _ => true
  | .str _ => true
  | .tuple ds => nols ds
  | .list _ => false
  | .dict kvs => kvs.isEmpty
def nols : List PyData → Bool
  | [] => true
  | d :: r => nol d && nols r
end
section
variable {X : Cx} {pins : List (Addr × Obj)} {σ : L2.St} {H : Hp} {s : Shared}
theorem emp_at {a : Addr} (I : L2.Inv X pins σ H s) (h : H a = some (.dK [])) : ∃ as, Reads s.heap (.ref a) (.dict []) as ∧ sysModules ∉ as := by
  obtain ⟨_, hne, vs, hk, o, es, ep, h1, h2, h5, h6, h7, h8⟩ := dk_rd I.hok (.inl h)
  have ev : vs = [] := by cases hk; rfl
  subst ev
  have ee : es.toList = [] := by
    cases q : es.toList with
    | nil => rfl
    | cons e r => rw [q] at h7; cases h7
  have r : ReadsAll s.heap (es.toList.map (·.key)) (([] : List (PyData × PyData)).map (·.1)) [] := by rw [ee]; exact .nil
  have r2 : ReadsAll s.heap (es.toList.map (·.val)) (([] : List (PyData × PyData)).map (·.2)) [] := by rw [ee]; exact .nil
  refine ⟨_, Reads.dict h1 h2.1 h5 r r2, fun z => ?_⟩
  rcases List.mem_cons.mp z with q | q
  · rw [← q] at hne
    exact absurd hne (by decide)
  · cases q
mutual
theorem rds (I : L2.Inv X pins σ H s) : ∀ (d : PyData) (v : V) (u : Value), Dq X.K H v d → L2.RelV v u → nol d = true → ∃ as, Reads s.heap u d as ∧ sysModules ∉ as
  | .none, _, _, h, r, _ => by cases h; cases r; exact ⟨_, Reads.none, nofun⟩
  | .bool b, _, _, h, r, _ => by cases h; cases r; exact ⟨_, Reads.bool b, nofun⟩
  | .int i, _, _, h, r, _ => by cases h; obtain ⟨t, rfl⟩ := r; exact ⟨_, Reads.int i t, nofun⟩
  | .str x, _, _, h, r, _ => by cases h; obtain ⟨t, rfl⟩ := r; exact ⟨_, Reads.str x t, nofun⟩
  | .list _, _, _, _, _, q => by simp only [nol] at q; cases q
  | .dict kvs, _, _, h, r, q => by
    cases h with
    | emp h => cases r; exact emp_at I h
  | .tuple ds, _, _, h, r, q => by
    simp only [nol] at q
    cases h with
    | tup hs ha =>
      cases r
      obtain ⟨its, rv, ⟨o, ho, hc, n, hd⟩, _⟩ := I.tuple hs
      obtain ⟨as, hr, hm⟩ := rdsA I ds _ its ha rv q
      exact ⟨_, Reads.tuple ho hc hd hr, hm⟩
theorem rdsA (I : L2.Inv X pins σ H s) : ∀ (ds : List PyData) (vs : List V) (us : List Value), DqAll X.K H vs ds → Vals vs us → nols ds = true → ∃ as, ReadsAll s.heap us ds as ∧ sysModules ∉ as
  | [], _, _, h, r, _ => by cases h; cases r; exact ⟨_, ReadsAll.nil, nofun⟩
  | d :: ds, _, _, h, r, q => by
    simp only [nols, Bool.and_eq_true] at q
    cases h with
    | cons h1 h2 =>
      cases r with
      | cons r1 r2 =>
        obtain ⟨as, q1, m1⟩ := rds I d _ _ h1 r1 q.1
        obtain ⟨bs, q2, m2⟩ := rdsA I ds _ _ h2 r2 q.2
        exact ⟨_, ReadsAll.cons q1 q2, fun z => (List.mem_append.mp z).elim m1 m2⟩
end
end
def shoE (d : PyData) : Bool := d.showable && (nol d && (decide (d.depth ≤ 64) && decide (d.shown.length ≤ sizeLine)))
/-- its text -/
def rpr : PyData → Str
  | .bool b => if b then "True" else "False"
  | .none => "None"
  | .int i => toString i
  | .str x => reprText x
  | d => d.shown
def RprOk : PyData → Prop
  | .bool _ => True
  | .none => True
  | .int i => i.natAbs.log2 < 1920
  | .str x => (reprText x).length ≤ sizeLine
  | .tuple xs => showB (.tuple xs) = true ∨ shoE (.tuple xs) = true
  | .list xs => showB (.list xs) = true
  | .dict kvs => kvs = []
def cReprA : RC := fun ds Q => match ds with
  | [d] => RprOk d ∧ Q (.str (rpr d))
  | _ => False
def rReprA (K : Frag) : List V → Hp → VK → Prop := fun xs H Q => rReprS K xs H Q ∨ ∃ a d, xs = [.ref a] ∧ Dq K H (.ref a) d ∧ shoE d = true ∧ Q (.str d.shown) H
theorem call_repr_a {X : Cx} (hg : X.A.guards = some []) (hu : X.A.units + 100 < cLine) : CallR X (.builtin "repr") (rReprA X.K) := by
  intro pins s σ H xs us Q I r h
  rcases h with h | ⟨a, d, rfl, hd, hs, q⟩
  · exact call_repr_s hg hu pins s σ H xs us Q I r h
  · obtain ⟨u, rfl, r1⟩ := vals1 r
    obtain rfl : u = Value.ref a := r1
    obtain ⟨s1, s2⟩ := Bool.and_eq_true_iff.mp hs
    obtain ⟨s3, s4⟩ := Bool.and_eq_true_iff.mp s2
    obtain ⟨s5, s6⟩ := Bool.and_eq_true_iff.mp s4
    obtain ⟨as, rd, hm⟩ := rds I d (.ref a) (.ref a) hd rfl s3
    have dd := of_decide_eq_true s5
    exact repr_of_reads' rd s1 (fun _ => hm) hg (by omega) (fun _ _ e => e) (fun h' u tk k => ⟨.str _, H, I.kept k, ⟨_, rfl⟩, q⟩) (of_decide_eq_true s6)
theorem shoE_emp : shoE (.dict []) = true := by decide +kernel
theorem sc_reprA {K : Frag} : SC K (rReprA K) cReprA := fun as H cs vs ds Qd Q w d h k => by
  match ds, d with
  | [.none], d => exact .inl (sc_reprS as H cs vs [.none] Qd Q w d h.2 k)
  | [.bool b], d => exact .inl (sc_reprS as H cs vs [.bool b] Qd Q w d h.2 k)
  | [.int i], d => exact .inl (sc_reprS as H cs vs [.int i] Qd Q w d h k)
  | [.str x], d => exact .inl (sc_reprS as H cs vs [.str x] Qd Q w d h k)
  | [.list xs], d => exact .inl (sc_reprS as H cs vs [.list xs] Qd Q w d h k)
  | [.tuple xs], d =>
    rcases h.1 with z | z
    · exact .inl (sc_reprS as H cs vs [.tuple xs] Qd Q w d ⟨z, h.2⟩ k)
    · match d with
      | .cons (.tup h1 h2) .nil => exact .inr ⟨_, _, rfl, (Dq.tup h1 h2).mono (hid_sub H as), z, k _ H _ (Same.refl H) (.str _) h.2⟩
  | [.dict kvs], .cons h1 h2 =>
    cases h2
    cases h1 with
    | emp h1 => exact .inr ⟨_, _, rfl, (Dq.emp h1).mono (hid_sub H as), shoE_emp, k _ H _ (Same.refl H) (.str _) h.2⟩
/-! ### what may be shown, built up: b tells whether it may hold {} -/
structure Sho (b : Bool) (x : PyData) (dp wt : Nat) : Prop where
  s : x.showable = true
  l : x.leavesShort 41 = true
  d : x.depth ≤ dp
  w : x.weight ≤ wt
  e : if b = true then nol x = true else x.hasDict = false ∧ x.canLay0 = true
structure ShoA (b : Bool) (ds : List PyData) (dp wt : Nat) : Prop where
  s : PyData.showableAll ds = true
  l : PyData.leavesShortAll 41 ds = true
  d : PyData.depthAll ds ≤ dp
  w : PyData.weightAll ds ≤ wt
  e : if b = true then nols ds = true else PyData.hasDictAll ds = false ∧ PyData.canLayAll0 ds = true
theorem ShoA.of {b : Bool} {dp W : Nat} : ∀ {ds : List PyData}, (∀ x ∈ ds, Sho b x dp W) → ShoA b ds dp (ds.length * (W + 1))
  | [], _ => ⟨rfl, rfl, Nat.zero_le _, Nat.zero_le _, by cases b <;> first | rfl | exact ⟨rfl, rfl⟩⟩
  | d :: ds, h => by
    have a := h d List.mem_cons_self
    have t := ShoA.of (ds := ds) fun x hx => h x (List.mem_cons_of_mem _ hx)
    have z1 := a.w
    have z2 := t.w
    refine ⟨?_, ?_, ?_, ?_, ?_⟩
    · simp only [PyData.showableAll, a.s, t.s]; rfl
    · simp only [PyData.leavesShortAll, a.l, t.l]; rfl
    · show max (PyData.depth d) (PyData.depthAll ds) ≤ dp
      exact Nat.max_le.mpr ⟨a.d, t.d⟩
    · simp only [PyData.weightAll, List.length_cons]
      rw [Nat.add_mul]
      omega
    · have e1 := a.e
      have e2 := t.e
      cases b with
      | true =>
        rw [if_pos rfl] at e1 e2 ⊢
        simp only [nols, e1, e2]; rfl
      | false =>
        rw [if_neg Bool.false_ne_true] at e1 e2 ⊢
        refine ⟨?_, ?_⟩
        · simp only [PyData.hasDictAll, e1.1, e2.1]; rfl
        · simp only [PyData.canLayAll0, e1.2, e2.2]; rfl
theorem Sho.tuple {b : Bool} {ds : List PyData} {dp W n : Nat} (h : ∀ x ∈ ds, Sho b x dp W) (hn : ds.length ≤ n) : Sho b (.tuple ds) (dp + 1) (n * (W + 1)) := by
  have a := ShoA.of h
  have e : PyData.depth (.tuple ds) = PyData.depthAll ds + 1 := by simp only [PyData.depth]
  refine ⟨by simp only [PyData.showable, a.s], by simp only [PyData.leavesShort, a.l], by rw [e]; have := a.d; omega, ?_, ?_⟩
  · simp only [PyData.weight]
    exact Nat.le_trans a.w (Nat.mul_le_mul_right _ hn)
  · have e2 := a.e
    cases b with
    | true => rw [if_pos rfl] at e2 ⊢; simp only [nol, e2]
    | false => rw [if_neg Bool.false_ne_true] at e2 ⊢; exact ⟨by simp only [PyData.hasDict, e2.1], by simp only [PyData.canLay0, e2.2]⟩
theorem Sho.list {ds : List PyData} {dp W n : Nat} (h : ∀ x ∈ ds, Sho false x dp W) (hn : ds.length ≤ n) : Sho false (.list ds) (dp + 1) (n * (W + 1)) := by
  have a := ShoA.of h
  have e : PyData.depth (.list ds) = PyData.depthAll ds + 1 := by simp only [PyData.depth]
  refine ⟨by simp only [PyData.showable, a.s], by simp only [PyData.leavesShort, a.l], by rw [e]; have := a.d; omega, ?_, ?_⟩
  · simp only [PyData.weight]
    exact Nat.le_trans a.w (Nat.mul_le_mul_right _ hn)
  · have e2 := a.e
    rw [if_neg Bool.false_ne_true] at e2 ⊢
    exact ⟨by simp only [PyData.hasDict, e2.1], by simp only [PyData.canLay0, e2.2]⟩
theorem Sho.mono {b : Bool} {x : PyData} {dp dp' W W' : Nat} (h : Sho b x dp W) (h1 : dp ≤ dp') (h2 : W ≤ W') : Sho b x dp' W' := ⟨h.s, h.l, Nat.le_trans h.d h1, Nat.le_trans h.w h2, h.e⟩
theorem Sho.int {b : Bool} {i : Int} {dp : Nat} (h : i.natAbs < 10 ^ 12) : Sho b (.int i) dp 40 := by
  have z := Shw.int (dp := dp) h
  have zi : decide ((PyData.shown (.int i)).length ≤ 13) = true := by have := z.i; simpa only [PyData.intsShort] using this
  have zl := of_decide_eq_true zi
  refine ⟨z.s, ?_, z.d, z.w, by cases b <;> first | rfl | exact ⟨rfl, rfl⟩⟩
  simp only [PyData.leavesShort]
  exact decide_eq_true (by omega)
theorem Sho.bool {b c : Bool} {dp W : Nat} : Sho b (.bool c) dp W := ⟨rfl, rfl, Nat.zero_le _, Nat.zero_le _, by cases b <;> first | rfl | exact ⟨rfl, rfl⟩⟩
theorem Sho.ok {b : Bool} {x : PyData} {dp W : Nat} (h : Sho b x dp W) (h1 : dp ≤ 64) (h2 : W ≤ 350000) : RprOk x := by
  have hl : x.shown.length ≤ sizeLine := by
    have z := PyData.shown_le 41 (by decide) x h.l
    have zw := h.w
    have e : 15728653 ≤ sizeLine := by decide
    omega
  have hd : x.depth ≤ 64 := Nat.le_trans h.d h1
  have ee := h.e
  have main : showB x = true ∨ shoE x = true := by
    cases b with
    | true =>
      rw [if_pos rfl] at ee
      refine .inr ?_
      unfold shoE
      rw [h.s, ee, decide_eq_true hd, decide_eq_true hl]; rfl
    | false =>
      rw [if_neg Bool.false_ne_true] at ee
      refine .inl ?_
      show (x.showable && (!x.hasDict && ((x.canLay0 && decide (x.depth ≤ 64)) && decide (x.shown.length ≤ sizeLine)))) = true
      rw [h.s, ee.1, ee.2, decide_eq_true hd, decide_eq_true hl]; rfl
  cases x with
  | none => trivial
  | bool _ => trivial
  | int i =>
    show i.natAbs.log2 < 1920
    exact of_decide_eq_true (by have := h.s; simpa only [PyData.showable] using this)
  | str y =>
    show (reprText y).length ≤ sizeLine
    simpa only [PyData.shown] using hl
  | tuple xs => exact main
  | list xs =>
    rcases main with z | z
    · exact z
    · have q := (Bool.and_eq_true_iff.mp (Bool.and_eq_true_iff.mp z).2).1
      simp only [nol] at q
      cases q
  | dict kvs =>
    cases b with
    | true =>
      rw [if_pos rfl] at ee
      simp only [nol] at ee
      exact List.isEmpty_iff.mp ee
    | false =>
      rw [if_neg Bool.false_ne_true] at ee
      have := ee.1
      simp only [PyData.hasDict] at this
      cases this
end Kp

namespace Kp
open PySem PySem.Spec PyProof.Rows L2
section
variable {X : Cx} {E : XK} {K : Frag}
/-! ### for over an own list that the body leaves alone -/
def dForC (i : Nat) (p : Put) (body : DS) : DS := fun Dd ρ cs => ∃ (j : Nat) (ds : List PyData), ρ[i]? = some (.c j) ∧ cs[j]? = some ds ∧ ∃ Inv : Nat → List Sl → CS → Prop, (∀ t ρ cs, Inv t ρ cs → cs[j]? = some ds) ∧ Inv 0 ρ cs ∧
  (∀ t ρ cs, t < ds.length → Inv t ρ cs → ∃ ρ', p (nth ds t) ρ = some ρ' ∧ body { Dd with nx := fun k ρ' cs' => Inv (t + 1) (ρ'.map (disSl k cs')) (cs'.drop k), ct := fun k ρ' cs' => Inv (t + 1) (ρ'.map (disSl k cs')) (cs'.drop k), bk := Dd.nx } ρ' cs) ∧
  ∀ ρ cs, Inv ds.length ρ cs → Dd.nx 0 ρ cs
theorem q_forC {tg o : Expr} {body : List Stmt} {pos : Pos} {p : Put} {db : DS} (i : Nat) (hp : PassesOwn (model X.prog X.w) X.A X.env X.xe) (hc : X.calm = true) (ho : PE X o (tVar i)) (hg : QG X tg p) (hb : QSs X E body db)
    (hs2 : ∀ x, foldedSetIterable o X.env x = pure x := by intro _; rfl) : QS X E (.For tg o body [] pos) (dForC i p db) := by
  obtain ⟨tgt, g1, g2⟩ := hg.ex
  obtain ⟨tb, b1, b2⟩ := hb.ex
  refine ⟨_, ps_for hp hc (pi_list ho) g1 b1 hs2, fun as σ H ρ cs D Dd w ev ek h S => ?_⟩
  obtain ⟨j, ds, h1, h2, Inv, hv, h0, hs, hd⟩ := h
  obtain ⟨v, hv1, hv2⟩ := pr_get ev h1
  obtain ⟨a, ha, rfl⟩ := hv2
  obtain ⟨xs0, hx0, -⟩ := w.lst ha h2
  refine ⟨_, hv1, a, rfl, ⟨xs0, SqL.of hx0⟩, ?_⟩
  refine ⟨fun t m σ' H' => m = ds.length - t ∧ t ≤ ds.length ∧ ∃ ρ' cs', Ext as H H' ∧ Wk X.K H' as cs' ∧ Ev X.K H' as σ' ρ' ∧ Inv t ρ' cs', ⟨ds.length, by simp, Nat.zero_le _, ρ, cs, Ext.refl, w, ev, h0⟩, ?_⟩
  rintro t m σ2 H2 ⟨rfl, ht, ρ2, cs2, e2, w2, ev2, i2⟩
  obtain ⟨xs, hx, q2⟩ := w2.lst ha (hv t ρ2 cs2 i2)
  have hlen := q2.len
  by_cases hlt : t < ds.length
  · have hxt : t < xs.length := by omega
    refine .inr ⟨⟨xs, xs[t], SqL.of hx, List.getElem?_eq_getElem hxt⟩, fun σ' H' => ∃ ρ' cs', Ext as H H' ∧ Wk X.K H' as cs' ∧ Ev X.K H' as σ' ρ' ∧ Inv (t + 1) ρ' cs', fun σ' H' q => ⟨ds.length - (t + 1), by omega, rfl, hlt, q⟩, fun x H3 y => ?_⟩
    obtain ⟨rfl, hz⟩ := y
    obtain ⟨dz, k1, k2⟩ := q2.get' (hz xs (SqL.of hx))
    have en : nth ds t = dz := by unfold nth; rw [List.getD_eq_getElem?_getD, k1]; rfl
    obtain ⟨ρ3, p1, p2⟩ := hs t ρ2 cs2 hlt i2
    rw [en] at p1
    refine g2 as σ2 H3 ρ2 ρ3 x _ _ ev2 k2 p1 fun σ3 ev3 => ?_
    refine b2 as σ3 H3 ρ3 cs2 _ { Dd with nx := fun k ρ' cs' => Inv (t + 1) (ρ'.map (disSl k cs')) (cs'.drop k), ct := fun k ρ' cs' => Inv (t + 1) (ρ'.map (disSl k cs')) (cs'.drop k), bk := Dd.nx } w2 ev3 (ek.ext e2) p2 ?_
    have S1 := S.ext w2 e2
    exact ⟨fun ex σ4 H4 ρ4 cs4 hf e4 w4 ev4 q => ⟨_, _, e2.trans e4, w4.drop, ev4.diss w4, q⟩, S1.nx, fun ex σ4 H4 ρ4 cs4 hf e4 w4 ev4 q => ⟨_, _, e2.trans e4, w4.drop, ev4.diss w4, q⟩, S1.rt, S1.rf⟩
  · have e : t = ds.length := by omega
    subst e
    exact .inl ⟨⟨xs, SqL.of hx, by omega⟩, S.nx [] σ2 H2 ρ2 cs2 Nw.nil e2 w2 ev2 (hd ρ2 cs2 i2)⟩
/-! ### x is True -/
def dIsB : R2D := fun x y Q => match x, y with
  | .bool a, .bool b => Q (.bool (decide (a = b)))
  | _, _ => False
theorem sr_isB : SR K rIsB dIsB := fun as H cs v u x y Qd Q w hx hy h k => by
  cases hx <;> try exact h.elim
  cases hy <;> try exact h.elim
  exact ⟨_, _, rfl, rfl, k _ H _ (Same.refl H) (.bl _) h⟩
end
end Kp

namespace Kp
open PySem PySem.Spec PyProof.Rows L2
/-! ### fields by their names -/
def fIx : List (Str × Bool) → Str → Option Nat
  | [], _ => none
  | x :: r, s => if x.1 = s then some 0 else (fIx r s).map (· + 1)
def setF {α : Type} (ds : List α) (m : Nat) (x : α) : List α := if m < ds.length then ds.set m x else ds ++ [x]
theorem setF_cons {α : Type} {d : α} {ds : List α} {m : Nat} {x : α} : setF (d :: ds) (m + 1) x = d :: setF ds m x := by
  unfold setF
  by_cases h : m < ds.length
  · rw [if_pos h, if_pos (by rw [List.length_cons]; omega)]; rfl
  · rw [if_neg h, if_neg (by rw [List.length_cons]; omega)]; rfl
theorem setF_zero {α : Type} {d : α} {ds : List α} {x : α} : setF (d :: ds) 0 x = x :: ds := by
  unfold setF
  rw [if_pos (by rw [List.length_cons]; omega)]; rfl
theorem setF_nil {α : Type} {m : Nat} {x : α} : setF ([] : List α) m x = [x] := by
  unfold setF
  rw [if_neg (by simp)]; rfl
theorem fz_cons {n : Str × Bool} {ns : List (Str × Bool)} {v : V} {vs : List V} : fz (n :: ns) (v :: vs) = (n.1, v) :: fz ns vs := rfl
theorem fz_nil {ns : List (Str × Bool)} : fz ns [] = [] := by unfold fz; simp
theorem lk_fz : ∀ {ns : List (Str × Bool)} {vs : List V} {f : Str} {m : Nat}, fIx ns f = some m → (fz ns vs).lookup f = vs[m]?
  | [], _, _, _, h => by cases h
  | x :: r, [], f, m, h => by rw [fz_nil]; simp
  | x :: r, v :: vs, f, m, h => by
    unfold fIx at h
    rw [fz_cons]
    by_cases e : x.1 = f
    · rw [if_pos e] at h
      cases h
      rw [e, List.lookup_cons_self]
      rfl
    · rw [if_neg e] at h
      cases q : fIx r f with
      | none => rw [q] at h; cases h
      | some n =>
        rw [q] at h
        cases h
        have e2 : (f == x.1) = false := by
          cases z : f == x.1 with
          | false => rfl
          | true => exact absurd (eq_of_beq z).symm e
        rw [List.lookup_cons, e2]
        exact lk_fz q
theorem lk_none : ∀ {ns : List (Str × Bool)} {vs : List V} {f : Str}, fIx ns f = none → (fz ns vs).lookup f = none
  | [], vs, f, _ => by unfold fz; simp
  | x :: r, [], f, h => by rw [fz_nil]; simp
  | x :: r, v :: vs, f, h => by
    unfold fIx at h
    rw [fz_cons]
    by_cases e : x.1 = f
    · rw [if_pos e] at h; cases h
    · rw [if_neg e] at h
      cases q : fIx r f with
      | some n => rw [q] at h; cases h
      | none =>
        have e2 : (f == x.1) = false := by
          cases z : f == x.1 with
          | false => rfl
          | true => exact absurd (eq_of_beq z).symm e
        rw [List.lookup_cons, e2]
        exact lk_none q
theorem putF_cons {f g : Str} {v u : V} {r : List (Str × V)} : putF f v ((g, u) :: r) = if g = f then (g, v) :: r else (g, u) :: putF f v r := rfl
theorem put_fz : ∀ {ns : List (Str × Bool)} {vs : List V} {f : Str} {m : Nat} {v : V}, fIx ns f = some m → m ≤ vs.length → putF f v (fz ns vs) = fz ns (setF vs m v)
  | [], _, _, _, _, h, _ => by cases h
  | x :: r, [], f, m, v, h, hm => by
    have m0 : m = 0 := by simpa using hm
    subst m0
    unfold fIx at h
    by_cases e : x.1 = f
    · rw [fz_nil, setF_nil, fz_cons, fz_nil, e]; rfl
    · rw [if_neg e] at h
      cases q : fIx r f with
      | none => rw [q] at h; cases h
      | some n => rw [q] at h; cases h
  | x :: r, u :: us, f, m, v, h, hm => by
    unfold fIx at h
    rw [fz_cons, putF_cons]
    by_cases e : x.1 = f
    · rw [if_pos e] at h ⊢
      cases h
      rw [setF_zero, fz_cons]
    · rw [if_neg e] at h ⊢
      cases q : fIx r f with
      | none => rw [q] at h; cases h
      | some n =>
        rw [q] at h
        cases h
        rw [setF_cons, fz_cons, put_fz q (by simpa using hm)]
theorem fIx_lt : ∀ {ns : List (Str × Bool)} {f : Str} {m : Nat}, fIx ns f = some m → m < ns.length
  | [], _, _, h => by cases h
  | x :: r, f, m, h => by
    unfold fIx at h
    by_cases e : x.1 = f
    · rw [if_pos e] at h; cases h; simp
    · rw [if_neg e] at h
      cases q : fIx r f with
      | none => rw [q] at h; cases h
      | some n => rw [q] at h; cases h; simpa using fIx_lt q
theorem fz_len {ns : List (Str × Bool)} {vs : List V} (h : vs.length ≤ ns.length) : (fz ns vs).length = vs.length := by
  unfold fz
  rw [List.length_zip, List.length_map]
  omega
/-! ### own lists, as fields are written -/
/-- is the m-th field a list of the object's own -/
def ownAt (ns : List (Str × Bool)) (m : Nat) : Bool := match ns[m]? with
  | some n => n.2
  | none => false
def rf1 (t : Bool) (v : V) : List Addr := match t, v with
  | true, .ref b => [b]
  | _, _ => []
theorem refs_c {n : Str × Bool} {ns : List (Str × Bool)} {v : V} {vs : List V} : refsOf (n :: ns) (fz (n :: ns) (v :: vs)) = rf1 n.2 v ++ refsOf ns (fz ns vs) := by
  obtain ⟨x, t⟩ := n
  show refsOf ((x, t) :: ns) ((x, v) :: fz ns vs) = _
  cases t with
  | false => rfl
  | true => cases v <;> rfl
theorem refs_nil {ns : List (Str × Bool)} : refsOf ns (fz ns []) = [] := by
  rw [fz_nil]
  cases ns with
  | nil => rfl
  | cons n r => obtain ⟨x, t⟩ := n; cases t <;> rfl
theorem refs_set0 : ∀ {ns : List (Str × Bool)} {vs : List V} {m : Nat} {v : V}, ownAt ns m = false → m ≤ vs.length → refsOf ns (fz ns (setF vs m v)) = refsOf ns (fz ns vs)
  | [], vs, m, v, _, _ => by
    show refsOf [] _ = refsOf [] _
    unfold refsOf; rfl
  | n :: ns, [], m, v, h, hm => by
    have m0 : m = 0 := by simpa using hm
    subst m0
    have h' : n.2 = false := h
    rw [setF_nil, refs_c, refs_nil, refs_nil, h']
    rfl
  | n :: ns, u :: us, 0, v, h, hm => by
    have h' : n.2 = false := h
    rw [setF_zero, refs_c, refs_c, h']
    rfl
  | n :: ns, u :: us, m + 1, v, h, hm => by
    rw [setF_cons, refs_c, refs_c, refs_set0 (show ownAt ns m = false by simpa [ownAt] using h) (by simpa using hm)]
theorem refs_set1 : ∀ {ns : List (Str × Bool)} {vs : List V} {m : Nat} {p : Addr}, m ≤ vs.length → (∀ b ∈ refsOf ns (fz ns (setF vs m (.ref p))), b ∈ refsOf ns (fz ns vs) ∨ b = p) ∧ ((refsOf ns (fz ns vs)).Nodup → p ∉ refsOf ns (fz ns vs) → (refsOf ns (fz ns (setF vs m (.ref p)))).Nodup)
  | [], vs, m, p, _ => by
    have e : ∀ l, refsOf [] l = [] := fun l => by unfold refsOf; rfl
    rw [e, e]
    exact ⟨fun b hb => (by cases hb), fun _ _ => List.nodup_nil⟩
  | n :: ns, [], m, p, hm => by
    have m0 : m = 0 := by simpa using hm
    subst m0
    rw [setF_nil, refs_c, refs_nil, refs_nil, List.append_nil]
    cases n.2 with
    | false => exact ⟨fun b hb => (by cases hb), fun _ _ => List.nodup_nil⟩
    | true => exact ⟨fun b hb => .inr (List.mem_singleton.mp hb), fun _ _ => List.nodup_cons.mpr ⟨by simp, List.nodup_nil⟩⟩
  | n :: ns, u :: us, 0, p, hm => by
    rw [setF_zero, refs_c, refs_c]
    have s : ∀ b ∈ rf1 n.2 (V.ref p), b = p := fun b hb => by
      cases q : n.2 with
      | false => rw [q] at hb; cases hb
      | true => rw [q] at hb; exact List.mem_singleton.mp hb
    refine ⟨fun b hb => (List.mem_append.mp hb).elim (fun z => .inr (s b z)) fun z => .inl (List.mem_append_right _ z), fun h1 h2 => ?_⟩
    refine List.nodup_append.mpr ⟨?_, (List.nodup_append.mp h1).2.1, fun b hb c hc e => h2 (List.mem_append_right _ (by rw [← s b hb, e]; exact hc))⟩
    cases n.2 with
    | false => exact List.nodup_nil
    | true => exact List.nodup_cons.mpr ⟨by simp, List.nodup_nil⟩
  | n :: ns, u :: us, m + 1, p, hm => by
    obtain ⟨i1, i2⟩ := refs_set1 (ns := ns) (vs := us) (m := m) (p := p) (by simpa using hm)
    rw [setF_cons, refs_c, refs_c]
    refine ⟨fun b hb => (List.mem_append.mp hb).elim (fun z => .inl (List.mem_append_left _ z)) fun z => (i1 b z).imp_left fun q => List.mem_append_right _ q, fun h1 h2 => ?_⟩
    obtain ⟨n1, n2, n3⟩ := List.nodup_append.mp h1
    refine List.nodup_append.mpr ⟨n1, i2 n2 fun z => h2 (List.mem_append_right _ z), fun b hb c hc e => ?_⟩
    rcases i1 c hc with z | z
    · exact n3 b hb c z e
    · exact h2 (List.mem_append_left _ (by rw [← z, ← e]; exact hb))
theorem FldAll.set {K : Frag} {H : Hp} {as : List CA} {v : V} {d : PyData} : ∀ {ns : List (Str × Bool)} {vs : List V} {ds : List PyData} {m : Nat}, FldAll K H as ns vs ds → m < ns.length → FldOk K H as (ownAt ns m) v d → m ≤ vs.length → FldAll K H as ns (setF vs m v) (setF ds m d)
  | [], _, _, _, _, h, _, _ => by simp at h
  | n :: ns, [], [], m, .nil, hn, h, hm => by
    have m0 : m = 0 := by simpa using hm
    subst m0
    rw [setF_nil, setF_nil]
    exact .cons h .nil
  | n :: ns, u :: us, e :: es, 0, .cons r t, hn, h, hm => by
    rw [setF_zero, setF_zero]
    exact .cons h t
  | n :: ns, u :: us, e :: es, m + 1, .cons r t, hn, h, hm => by
    rw [setF_cons, setF_cons]
    exact .cons r (FldAll.set t (by simpa using hn) (show FldOk K H as (ownAt ns m) v d by simpa [ownAt] using h) (by simpa using hm))
theorem FldAll.get {K : Frag} {H : Hp} {as : List CA} : ∀ {ns : List (Str × Bool)} {vs : List V} {ds : List PyData} {m : Nat} {d : PyData}, FldAll K H as ns vs ds → ds[m]? = some d → ∃ v, vs[m]? = some v ∧ FldOk K H as (ownAt ns m) v d
  | _, _, _, _, _, .nil, h => by simp at h
  | n :: ns, u :: us, e :: es, 0, d, .cons r t, h => by
    cases (show some e = some d from h)
    exact ⟨u, rfl, r⟩
  | n :: ns, u :: us, e :: es, m + 1, d, .cons r t, h => by
    obtain ⟨v, h1, h2⟩ := FldAll.get t (show es[m]? = some d by simpa using h)
    exact ⟨v, by simpa using h1, by simpa [ownAt] using h2⟩
/-- the m-th own list is written -/
theorem FldAll.putL {K : Frag} {H H' : Hp} {as : List CA} {l : Addr} {xs : List V} {es : List PyData} (s : Same (hid H as) (hid H' as)) (hl : H' l = some (.lst xs)) (hn : ∀ b, b ≠ l → H' b = H b) (d : DqAll K (hid H' as) xs es) : ∀ {ns : List (Str × Bool)} {vs : List V} {ds : List PyData} {m : Nat}, FldAll K H as ns vs ds → (refsOf ns (fz ns vs)).Nodup → vs[m]? = some (.ref l) → ownAt ns m = true → FldAll K H' as ns vs (ds.set m (.list es))
  | _, _, _, m, .nil, _, h, _ => by simp at h
  | n :: ns, u :: us, e :: es', 0, .cons r t, nd, h, ho => by
    cases (show some u = some (.ref l) from h)
    have ho' : n.2 = true := ho
    rw [refs_c, ho'] at nd
    refine .cons (by rw [ho']; exact ⟨l, xs, es, rfl, rfl, hl, d⟩) (t.move s fun b hb o q => ?_)
    rw [hn b fun z => (List.nodup_append.mp nd).2.2 l (List.mem_singleton.mpr rfl) b hb z.symm]
    exact q
  | n :: ns, u :: us, e :: es', m + 1, .cons r t, nd, h, ho => by
    rw [refs_c] at nd
    have h' : us[m]? = some (.ref l) := by simpa using h
    have ho' : ownAt ns m = true := by simpa [ownAt] using ho
    have hb : l ∈ refsOf ns (fz ns us) := own_in t h' ho'
    refine .cons ?_ (FldAll.putL s hl hn d t (List.nodup_append.mp nd).2.1 h' ho')
    cases q : n.2 with
    | false => rw [q] at r; exact Dq.mono s r
    | true =>
      rw [q] at r
      obtain ⟨l2, xs2, es2, rfl, g2, g3, g4⟩ := r
      refine ⟨l2, xs2, es2, rfl, g2, ?_, g4.mono s⟩
      rw [hn l2 fun z => (List.nodup_append.mp nd).2.2 l2 (by rw [q]; exact List.mem_singleton.mpr rfl) l hb z]
      exact g3
where own_in {K : Frag} {H : Hp} {as : List CA} {l : Addr} : ∀ {ns : List (Str × Bool)} {vs : List V} {ds : List PyData} {m : Nat}, FldAll K H as ns vs ds → vs[m]? = some (.ref l) → ownAt ns m = true → l ∈ refsOf ns (fz ns vs)
  | _, _, _, m, .nil, h, _ => by simp at h
  | n :: ns, u :: us, e :: es', 0, .cons r t, h, ho => by
    cases (show some u = some (.ref l) from h)
    have ho' : n.2 = true := ho
    rw [refs_c, ho']
    exact List.mem_append_left _ (List.mem_singleton.mpr rfl)
  | n :: ns, u :: us, e :: es', m + 1, .cons r t, h, ho => by
    rw [refs_c]
    exact List.mem_append_right _ (own_in t (by simpa using h) (by simpa [ownAt] using ho))
end Kp

namespace Kp
open PySem PySem.Spec PyProof.Rows L2
section
variable {K : Frag} {H : Hp} {as : List CA} {cs : CS}
/-! ### an object among the cells -/
theorem ix_uniq {f g : CA} : ∀ {l : List CA} {i j : Nat}, (hdl H l).Nodup → l[i]? = some g → l[j]? = some f → (∃ b, b ∈ adr H g ∧ b ∈ adr H f) → i = j := by
  intro l
  induction l with
  | nil => intro i j _ h; simp at h
  | cons b r ih =>
    intro i j hn h1 h2 h3
    obtain ⟨x, x1, x2⟩ := h3
    rw [hdl_cons] at hn
    obtain ⟨_, n2, n3⟩ := List.nodup_append.mp hn
    cases i with
    | zero =>
      cases j with
      | zero => rfl
      | succ j =>
        have e1 : b = g := by simpa using h1
        have e2 : r[j]? = some f := by simpa using h2
        exact absurd rfl (n3 _ (by rw [e1]; exact x1) _ (mem_hdl.mpr ⟨j, f, e2, x2⟩))
    | succ i =>
      have e1 : r[i]? = some g := by simpa using h1
      cases j with
      | zero =>
        have e2 : b = f := by simpa using h2
        exact absurd rfl (n3 _ (by rw [e2]; exact x2) _ (mem_hdl.mpr ⟨i, g, e1, x1⟩))
      | succ j =>
        have e2 : r[j]? = some f := by simpa using h2
        rw [ih n2 e1 e2 ⟨x, x1, x2⟩]
/-- the others' addresses are not the object's -/
theorem Wk.oth (w : Wk K H as cs) {i j : Nat} {f g : CA} (hj : as[j]? = some f) (hi : as[i]? = some g) (n : i ≠ j) {b : Addr} (hb : b ∈ adr H f) : b ∉ adr H g := fun z => n (ix_uniq w.nd hi hj ⟨b, z, hb⟩)
theorem adr_obj {a C dx : Addr} {c : OC} {fs : List (Str × V)} (h : H a = some (.ins C dx fs)) : adr H ⟨a, .obj c⟩ = a :: refsOf c.fs fs := by
  unfold adr
  rw [own_at h]; rfl
theorem pr_setat {α β : Type} {F G : α → β → Prop} {y : β} : ∀ {l : List α} {m : List β} {j : Nat}, Paired F l m → (∀ i x z, l[i]? = some x → i ≠ j → F x z → G x z) → (∀ x, l[j]? = some x → G x y) → Paired G l (m.set j y)
  | _, _, _, .nil, _, _ => .nil
  | _, _, 0, .cons r t, h1, h2 => .cons (h2 _ rfl) (by
    have go : ∀ {l : List α} {m : List β}, Paired F l m → (∀ i x z, l[i]? = some x → F x z → G x z) → Paired G l m := fun {l m} q => by
      induction q with
      | nil => intro _; exact .nil
      | cons r _ ih => intro h; exact .cons (h 0 _ _ rfl r) (ih fun i x z e => h (i + 1) x z (by simpa using e))
    exact go t fun i x z e => h1 (i + 1) x z (by simpa using e) (by omega))
  | _, _, j + 1, .cons r t, h1, h2 => .cons (h1 0 _ _ rfl (by omega) r) (pr_setat (j := j) t (fun i x z e n => h1 (i + 1) x z (by simpa using e) (by omega)) fun x e => h2 x (by simpa using e))
/-- a field that is data is written -/
theorem Wk.putD {j m : Nat} {a dx : Addr} {c : OC} {vs : List V} {ds : List PyData} {v : V} {x : PyData} (w : Wk K H as cs) (hj : as[j]? = some ⟨a, .obj c⟩) (h : H a = some (.ins (He.ga K c.nm) dx (fz c.fs vs))) (hf : FldAll K H as c.fs vs ds) (ho : ownAt c.fs m = false) (hn : m < c.fs.length) (hm : m ≤ ds.length) (d : Dq K (hid H as) v x) :
    Wk K (upd H a (.ins (He.ga K c.nm) dx (fz c.fs (setF vs m v)))) as (cs.set j (setF ds m x)) ∧ Ext as H (upd H a (.ins (He.ga K c.nm) dx (fz c.fs (setF vs m v)))) := by
  have hm' : m ≤ vs.length := by rw [hf.len.1]; exact hm
  have e1 : adr (upd H a (.ins (He.ga K c.nm) dx (fz c.fs (setF vs m v)))) ⟨a, .obj c⟩ = adr H ⟨a, .obj c⟩ := by rw [adr_obj upd_same, adr_obj h, refs_set0 ho hm']
  have e2 : (ownL (upd H a (.ins (He.ga K c.nm) dx (fz c.fs (setF vs m v)))) ⟨a, .obj c⟩).isSome = true := by rw [own_at upd_same]; rfl
  have hh := hid_updO (f := ⟨a, .obj c⟩) w hj e1 e2
  have nd : (a :: refsOf c.fs (fz c.fs vs)).Nodup := by have n := adr_nodup w.nd hj; rw [adr_obj h] at n; exact n
  refine ⟨w.putO (f := ⟨a, .obj c⟩) hj e1 e2 ⟨dx, _, upd_same, ?_⟩, ext_updO (f := ⟨a, .obj c⟩) w hj e1 e2⟩
  have s : Same (hid H as) (hid (upd H a (.ins (He.ga K c.nm) dx (fz c.fs (setF vs m v)))) as) := by rw [hh]; exact Same.refl _
  refine FldAll.set (hf.move s fun b hb o q => ?_) hn (by rw [ho]; exact Dq.mono s d) hm'
  rw [upd_ne fun z => (List.nodup_cons.mp nd).1 (by rw [← z]; exact hb)]
  exact q
/-- a new list becomes one of the object's own -/
theorem Wk.putN {H0 : Hp} {j m : Nat} {a dx p : Addr} {c : OC} {vs : List V} {ds es : List PyData} (w : Wk K H (cl p :: as) (es :: cs)) (e0 : Ext as H0 H) (hp0 : H0 p = none) (hj : as[j]? = some ⟨a, .obj c⟩) (h : H a = some (.ins (He.ga K c.nm) dx (fz c.fs vs))) (hf : FldAll K H (cl p :: as) c.fs vs ds) (ho : ownAt c.fs m = true) (hn : m < c.fs.length) (hm : m ≤ ds.length) :
    Wk K (upd H a (.ins (He.ga K c.nm) dx (fz c.fs (setF vs m (.ref p))))) as (cs.set j (setF ds m (.list es))) ∧ Ext as H0 (upd H a (.ins (He.ga K c.nm) dx (fz c.fs (setF vs m (.ref p))))) := by
  have hm' : m ≤ vs.length := by rw [hf.len.1]; exact hm
  have w1 : Wk K H as cs := Wk.drop (ex := [cl p]) w
  have np : Vs H as p := Wk.apart (ex := [cl p]) w (j := 0) (f := cl p) rfl
  have ea := adr_obj (c := c) h
  have nd : (a :: refsOf c.fs (fz c.fs vs)).Nodup := by have n := adr_nodup w1.nd hj; rw [ea] at n; exact n
  obtain ⟨nd1, nd2⟩ := List.nodup_cons.mp nd
  have pin : ∀ b ∈ adr H ⟨a, .obj c⟩, b ≠ p := fun b hb z => np.2 (mem_hdl.mpr ⟨j, _, hj, by rw [← z]; exact hb⟩)
  have npr : p ∉ refsOf c.fs (fz c.fs vs) := fun z => pin p (by rw [ea]; exact List.mem_cons_of_mem _ z) rfl
  have hap : a ≠ p := pin a (by rw [ea]; exact List.mem_cons_self)
  obtain ⟨r1, r2⟩ := refs_set1 (ns := c.fs) (vs := vs) (m := m) (p := p) hm'
  obtain ⟨H2, hH2⟩ : ∃ H2, H2 = upd H a (.ins (He.ga K c.nm) dx (fz c.fs (setF vs m (.ref p)))) := ⟨_, rfl⟩
  rw [← hH2]
  have h2 : H2 a = some (.ins (He.ga K c.nm) dx (fz c.fs (setF vs m (.ref p)))) := by rw [hH2]; exact upd_same
  have h2n : ∀ b, b ≠ a → H2 b = H b := fun b hb => by rw [hH2]; exact upd_ne hb
  have ea2 : adr H2 ⟨a, .obj c⟩ = a :: refsOf c.fs (fz c.fs (setF vs m (.ref p))) := adr_obj h2
  have eo : ∀ (i : Nat) (g : CA), as[i]? = some g → i ≠ j → adr H2 g = adr H g ∧ ownL H2 g = ownL H g := fun i g hi n => by
    have ng : g.a ≠ a := fun z => w1.oth hj hi n (b := a) (by rw [ea]; exact List.mem_cons_self) (by rw [← z]; exact adr_self)
    exact ⟨adr_eq (h2n _ ng), ownL_eq (h2n _ ng)⟩
  have lv2 : Lv H2 as := fun i g hi => by
    by_cases n : i = j
    · rw [n, hj] at hi; cases hi; rw [own_at h2]; rfl
    · rw [(eo i g hi n).2]; exact w1.lv i g hi
  have sub : ∀ b ∈ hdl H2 as, b ∈ hdl H as ∨ b = p := fun b hb => by
    obtain ⟨i, g, hi, z⟩ := mem_hdl.mp hb
    by_cases n : i = j
    · rw [n, hj] at hi; cases hi
      rw [ea2] at z
      rcases List.mem_cons.mp z with z | z
      · exact .inl (mem_hdl.mpr ⟨j, _, hj, by rw [z, ea]; exact List.mem_cons_self⟩)
      · exact (r1 b z).imp_left fun q => mem_hdl.mpr ⟨j, _, hj, by rw [ea]; exact List.mem_cons_of_mem _ q⟩
    · rw [(eo i g hi n).1] at z
      exact .inl (mem_hdl.mpr ⟨i, g, hi, z⟩)
  have ndA : (adr H2 ⟨a, .obj c⟩).Nodup := by
    rw [ea2]
    refine List.nodup_cons.mpr ⟨fun z => (r1 a z).elim nd1 hap, r2 nd2 npr⟩
  have nd3 : (hdl H2 as).Nodup := by
    have go : ∀ {l : List CA} {j : Nat}, (hdl H l).Nodup → l[j]? = some ⟨a, .obj c⟩ → p ∉ hdl H l → (∀ (i : Nat) (g : CA), l[i]? = some g → i ≠ j → adr H2 g = adr H g) → (hdl H2 l).Nodup ∧ ∀ b ∈ hdl H2 l, b ∈ hdl H l ∨ b = p := by
      intro l
      induction l with
      | nil => intro j _ h; simp at h
      | cons b r ih =>
        intro j hn h1 h3 h4
        rw [hdl_cons] at hn h3
        obtain ⟨n1, n2, n3⟩ := List.nodup_append.mp hn
        rw [hdl_cons, hdl_cons]
        cases j with
        | zero =>
          cases (show some b = some _ from h1)
          have er : hdl H2 r = hdl H r := hdl_eq fun i g q => h4 (i + 1) g (by simpa using q) (by omega)
          have sb : ∀ x ∈ adr H2 ⟨a, .obj c⟩, x ∈ adr H ⟨a, .obj c⟩ ∨ x = p := fun x hx => by
            rw [ea2] at hx
            rw [ea]
            rcases List.mem_cons.mp hx with z | z
            · exact .inl (by rw [z]; exact List.mem_cons_self)
            · exact (r1 x z).imp_left fun q => List.mem_cons_of_mem _ q
          rw [er]
          refine ⟨List.nodup_append.mpr ⟨ndA, n2, fun x hx y hy e => ?_⟩, fun x hx => (List.mem_append.mp hx).elim (fun z => (sb x z).imp_left fun q => List.mem_append_left _ q) fun z => .inl (List.mem_append_right _ z)⟩
          rcases sb x hx with z | z
          · exact n3 x z y hy e
          · exact h3 (List.mem_append_right _ (by rw [← z, e]; exact hy))
        | succ j =>
          obtain ⟨i1, i2⟩ := ih n2 (show r[j]? = some _ by simpa using h1) (fun z => h3 (List.mem_append_right _ z)) fun i g q n => h4 (i + 1) g (by simpa using q) (by omega)
          have eb : adr H2 b = adr H b := h4 0 b rfl (by omega)
          rw [eb]
          refine ⟨List.nodup_append.mpr ⟨n1, i1, fun x hx y hy e => ?_⟩, fun x hx => (List.mem_append.mp hx).elim (fun z => .inl (List.mem_append_left _ z)) fun z => (i2 x z).imp_left fun q => List.mem_append_right _ q⟩
          rcases i2 y hy with z | z
          · exact n3 x hx y z e
          · exact h3 (List.mem_append_left _ (by rw [← z, ← e]; exact hx))
    exact (go w1.nd hj np.2 fun i g q n => (eo i g q n).1).1
  have s : Same (hid H (cl p :: as)) (hid H2 as) := fun b o hb => by
    obtain ⟨g1, g2⟩ := hid_of hb
    have g3 : Vs H as b := Vs.right (x := [cl p]) g1
    have nbp : b ≠ p := fun z => (Vs.left (x := [cl p]) g1).2 (by rw [z]; exact List.mem_singleton.mpr rfl)
    have nba : b ≠ a := fun z => g3.2 (mem_hdl.mpr ⟨j, _, hj, by rw [z, ea]; exact List.mem_cons_self⟩)
    rw [hid_out ⟨lv2, fun z => (sub b z).elim g3.2 nbp⟩, h2n b nba]
    exact g2
  refine ⟨⟨nd3, ?_⟩, ⟨fun b o hv hb => ?_, fun b hb => ?_, fun i g hi l => ?_⟩⟩
  · cases w.cel with
    | cons c0 ct =>
      obtain ⟨xs, x1, x2⟩ := c0
      refine pr_setat ct (fun i g z hi n q => q.move s fun b hb o ho => ?_) fun g hg => ?_
      · rw [h2n b fun z => w1.oth hj hi n (b := a) (by rw [ea]; exact List.mem_cons_self) (by rw [← z]; exact hb)]
        exact ho
      · rw [hj] at hg
        cases hg
        refine ⟨dx, _, h2, FldAll.set (hf.move s fun b hb o ho => ?_) hn (by rw [ho]; exact ⟨p, xs, es, rfl, rfl, by rw [h2n p hap.symm]; exact x1, x2.mono s⟩) hm'⟩
        rw [h2n b fun z => nd1 (by rw [← z]; exact hb)]
        exact ho
  · have v1 := e0.vs hv hb
    rw [h2n b fun z => v1.2 (mem_hdl.mpr ⟨j, _, hj, by rw [z, ea]; exact List.mem_cons_self⟩)]
    exact e0.sm b o hv hb
  · by_cases z : b = a
    · rw [z, h2] at hb; cases hb
    · rw [h2n b z] at hb; exact e0.dm b hb
  · obtain ⟨l1, l2⟩ := e0.ev i g hi l
    refine ⟨lv2 i g hi, fun b hb => ?_⟩
    by_cases n : i = j
    · rw [n, hj] at hi
      cases hi
      rw [ea2] at hb
      rcases List.mem_cons.mp hb with z | z
      · exact l2 b (by rw [z, ea]; exact List.mem_cons_self)
      · rcases r1 b z with q | q
        · exact l2 b (by rw [ea]; exact List.mem_cons_of_mem _ q)
        · exact .inr (by rw [q]; exact hp0)
    · rw [(eo i g hi n).1] at hb
      exact l2 b hb
/-- one of the object's own lists is written -/
theorem Wk.putL {j m : Nat} {a dx l : Addr} {c : OC} {vs xs : List V} {ds es : List PyData} (w : Wk K H as cs) (hj : as[j]? = some ⟨a, .obj c⟩) (h : H a = some (.ins (He.ga K c.nm) dx (fz c.fs vs))) (hf : FldAll K H as c.fs vs ds) (ho : ownAt c.fs m = true) (hl : vs[m]? = some (.ref l)) (d : DqAll K (hid H as) xs es) :
    Wk K (upd H l (.lst xs)) as (cs.set j (ds.set m (.list es))) ∧ Ext as H (upd H l (.lst xs)) ∧ hid (upd H l (.lst xs)) as = hid H as := by
  have ea := adr_obj (c := c) h
  have nd : (a :: refsOf c.fs (fz c.fs vs)).Nodup := by have n := adr_nodup w.nd hj; rw [ea] at n; exact n
  obtain ⟨nd1, nd2⟩ := List.nodup_cons.mp nd
  have hlr : l ∈ refsOf c.fs (fz c.fs vs) := FldAll.putL.own_in hf hl ho
  have hla : l ∈ adr H ⟨a, .obj c⟩ := by rw [ea]; exact List.mem_cons_of_mem _ hlr
  have nl : ∀ (i : Nat) (g : CA), as[i]? = some g → g.a ≠ l := fun i g hi z => by
    by_cases n : i = j
    · rw [n, hj] at hi; cases hi
      exact nd1 (by rw [show a = l from z]; exact hlr)
    · exact w.oth hj hi n hla (by rw [← z]; exact adr_self)
  have pl : l ∉ as := fun z => by
    obtain ⟨i, g, hi, e⟩ := at_mem z
    exact nl i g hi e
  have e1 : hdl (upd H l (.lst xs)) as = hdl H as := hdl_upd pl
  have hin : l ∈ hdl H as := mem_hdl.mpr ⟨j, _, hj, hla⟩
  have hh : hid (upd H l (.lst xs)) as = hid H as := by
    funext b
    by_cases q : b ∈ hdl H as
    · have n1 : ¬ Vs H as b := fun z => z.2 q
      have n2 : ¬ Vs (upd H l (.lst xs)) as b := fun z => z.2 (by rw [e1]; exact q)
      unfold hid
      rw [if_neg n1, if_neg n2]
    · rw [hid_out ⟨w.lv, q⟩, hid_out ⟨w.lv.upd pl, by rw [e1]; exact q⟩, upd_ne fun z => q (by rw [z]; exact hin)]
  have s : Same (hid H as) (hid (upd H l (.lst xs)) as) := by rw [hh]; exact Same.refl _
  refine ⟨⟨by rw [e1]; exact w.nd, ?_⟩, ⟨fun b o hv hb => ?_, fun b hb => ?_, fun i g hi lv => ⟨by rw [own_upd (nl i g hi)]; exact lv, fun b hb => .inl (by rw [adr_upd (nl i g hi)] at hb; exact hb)⟩⟩, hh⟩
  · refine pr_setat w.cel (fun i g z hi n q => q.move s fun b hb o ho => ?_) fun g hg => ?_
    · rw [upd_ne fun z => w.oth hj hi n hla (by rw [← z]; exact hb)]
      exact ho
    · rw [hj] at hg
      cases hg
      exact ⟨dx, vs, by rw [upd_ne fun z => nd1 (by rw [z]; exact hlr)]; exact h, FldAll.putL s upd_same (fun b hb => upd_ne hb) (d.mono s) hf nd2 hl ho⟩
  · rw [upd_ne fun z => hv.2 (by rw [z]; exact hin)]
    exact hb
  · cases q : H b with
    | none => rfl
    | some u =>
      by_cases z : b = l
      · rw [z, upd_same] at hb; cases hb
      · rw [upd_ne z, q] at hb; cases hb
end
end Kp

namespace Kp
open PySem PySem.Spec PyProof.Rows L2
section
variable {K : Frag} {E : XK} {X : Cx}
/-! ### what is known of a class -/
structure OCk (K : Frag) (c : OC) : Prop where
  cls : L2.Cls K (He.ga K c.nm)
  na : ∀ n ∈ c.fs, L2.NoAttr K (He.ga K c.nm) n.1
  sz : c.fs.length < 100
theorem fIx_mem : ∀ {ns : List (Str × Bool)} {f : Str} {m : Nat}, fIx ns f = some m → ∃ n ∈ ns, n.1 = f
  | [], _, _, h => by cases h
  | x :: r, f, m, h => by
    unfold fIx at h
    by_cases e : x.1 = f
    · exact ⟨x, List.mem_cons_self, e⟩
    · rw [if_neg e] at h
      cases q : fIx r f with
      | none => rw [q] at h; cases h
      | some n =>
        obtain ⟨y, h1, h2⟩ := fIx_mem q
        exact ⟨y, List.mem_cons_of_mem _ h1, h2⟩
theorem OCk.no {c : OC} (k : OCk K c) {f : Str} {m : Nat} (h : fIx c.fs f = some m) : L2.NoAttr K (He.ga K c.nm) f := by
  obtain ⟨n, h1, h2⟩ := fIx_mem h
  rw [← h2]
  exact k.na n h1
/-! ### o.f -/
def dAtt (c : OC) (i m : Nat) : DE := fun ρ cs _ Q => match ρ[i]? with
  | some (.o c' j) => c' = c ∧ ownAt c.fs m = false ∧ ∃ ds d, cs[j]? = some ds ∧ ds[m]? = some d ∧ Q d cs
  | some (.g c' ds) => c' = c ∧ ∃ d, ds[m]? = some d ∧ Q d cs
  | _ => False
theorem q_att {o : Expr} {f : Str} {pos : Pos} (c : OC) (i m : Nat) (hc : OCk X.K c) (ho : PE X o (tVar i)) (hx : fIx c.fs f = some m := by decide +kernel) (hb : attributeBase o f X.env (eval o X.env) = eval o X.env := by rfl) : QE X E (.Attribute o f pos) (dAtt c i m) := by
  refine ⟨_, pe_fld ho hb, fun as σ H ρ cs Ed Qd Q w ev ek h kk => ?_⟩
  unfold dAtt at h
  cases q : ρ[i]? with
  | none => rw [q] at h; exact h.elim
  | some sl =>
    rw [q] at h
    obtain ⟨o, hoo, hs⟩ := pr_get ev q
    cases sl with
    | o c' j =>
      obtain ⟨rfl, h1, ds, d, h2, h3, h4⟩ := h
      obtain ⟨a, g1, rfl⟩ := hs
      obtain ⟨dx, vs, g2, g3⟩ := w.obj g1 h2
      obtain ⟨v, g4, g5⟩ := g3.get h3
      rw [h1] at g5
      exact ⟨_, hoo, a, _, dx, _, v, rfl, g2, hc.cls, hc.no hx, by rw [lk_fz hx]; exact g4, kk v H d cs Ext.refl w g5 h4⟩
    | g c' ds =>
      obtain ⟨rfl, d, h3, h4⟩ := h
      obtain ⟨a, dx, vs, rfl, g2, g3, g4⟩ := hs
      obtain ⟨v, g5, g6⟩ := g4.get h3
      exact ⟨_, hoo, a, _, dx, _, v, rfl, hid1 g2, hc.cls, hc.no hx, by rw [lk_fz hx]; exact g5, kk v H d cs Ext.refl w g6 h4⟩
    | _ => exact h.elim
/-! ### o.f = e -/
def dFSet (c : OC) (i m : Nat) (dv : DE) : DS := fun Dd ρ cs => dv ρ cs Dd.ex fun x cs1 => match ρ[i]? with
  | some (.o c' j) => c' = c ∧ ∃ ds, cs1[j]? = some ds ∧ m ≤ ds.length ∧ Dd.nx 0 ρ (cs1.set j (setF ds m x))
  | _ => False
theorem q_fset {o e : Expr} {f : Str} {pos pos' : Pos} {dv : DE} (c : OC) (i m : Nat) (hc : OCk X.K c) (ho : PE X o (tVar i)) (hv : QE X E e dv) (hx : fIx c.fs f = some m := by decide +kernel) (hw : ownAt c.fs m = false := by rfl) (hs : swapsWith e (some (.Attribute o f pos')) pos.line X.env = pure false := by rfl) : QS X E (.Assign [.Attribute o f pos'] e pos) (dFSet c i m dv) := by
  obtain ⟨tv, v1, v2⟩ := hv.ex
  refine ⟨_, ps_fld ho v1 hs, fun as σ H ρ cs D Dd w ev ek h S => v2 as σ H ρ cs Dd.ex _ _ w ev ek h fun v H1 x cs1 e1 w1 d1 h1 => ?_⟩
  cases q : ρ[i]? with
  | none => rw [q] at h1; exact h1.elim
  | some sl =>
    rw [q] at h1
    obtain ⟨o, hoo, hs⟩ := pr_get ev q
    cases sl with
    | o c' j =>
      obtain ⟨rfl, ds, h2, h3, h4⟩ := h1
      obtain ⟨a, g1, rfl⟩ := hs
      obtain ⟨dx, vs, g2, g3⟩ := w1.obj g1 h2
      obtain ⟨w2, e2⟩ := w1.putD g1 g2 g3 hw (fIx_lt hx) h3 d1
      have hz := hc.sz
      refine ⟨_, hoo, a, _, dx, _, rfl, g2, hc.cls, hc.no hx, by rw [fz_len g3.len.2]; have := g3.len.2; omega, ?_⟩
      rw [put_fz hx (by rw [g3.len.1]; exact h3)]
      exact S.nx [] σ _ ρ _ Nw.nil (e1.trans e2) w2 ((ev.ext e1).ext e2) h4
    | _ => exact h1.elim
/-! ### o.f = a new list, which the object owns -/
def dFNew (c : OC) (i m : Nat) (dl : DL) : DS := fun Dd ρ cs => dl ρ cs Dd.ex fun es cs1 => match ρ[i]? with
  | some (.o c' j) => c' = c ∧ ∃ ds, cs1[j]? = some ds ∧ m ≤ ds.length ∧ Dd.nx 0 ρ (cs1.set j (setF ds m (.list es)))
  | _ => False
theorem q_fnew {o e : Expr} {f : Str} {pos pos' : Pos} {dl : DL} (c : OC) (i m : Nat) (hc : OCk X.K c) (ho : PE X o (tVar i)) (hv : QN X E e dl) (hx : fIx c.fs f = some m := by decide +kernel) (hw : ownAt c.fs m = true := by rfl) (hs : swapsWith e (some (.Attribute o f pos')) pos.line X.env = pure false := by rfl) : QS X E (.Assign [.Attribute o f pos'] e pos) (dFNew c i m dl) := by
  obtain ⟨tv, v1, v2⟩ := hv.ex
  refine ⟨_, ps_fld ho v1 hs, fun as σ H ρ cs D Dd w ev ek h S => v2 as σ H ρ cs Dd.ex _ _ w ev ek h fun p H1 es cs1 e1 hp w1 h1 => ?_⟩
  cases q : ρ[i]? with
  | none => rw [q] at h1; exact h1.elim
  | some sl =>
    rw [q] at h1
    obtain ⟨o, hoo, hs⟩ := pr_get ev q
    cases sl with
    | o c' j =>
      obtain ⟨rfl, ds, h2, h3, h4⟩ := h1
      obtain ⟨a, g1, rfl⟩ := hs
      obtain ⟨dx, vs, g2, g3⟩ := w1.obj (j := j + 1) (by simpa using g1) (by simpa using h2)
      obtain ⟨w2, e2⟩ := w1.putN e1 hp g1 g2 g3 hw (fIx_lt hx) h3
      have hz := hc.sz
      refine ⟨_, hoo, a, _, dx, _, rfl, g2, hc.cls, hc.no hx, by rw [fz_len g3.len.2]; have := g3.len.2; omega, ?_⟩
      rw [put_fz hx (by rw [g3.len.1]; exact h3)]
      exact S.nx [] σ _ ρ _ Nw.nil e2 w2 (ev.ext e2) h4
    | _ => exact h1.elim
/-! ### o.f += e, of ints -/
def rIn (g : Int → Int → Int) : V → V → Hp → VK → Prop := fun x y H Q => ∃ i j, x = .int i ∧ y = .int j ∧ Q (.int (g i j)) H
def dFAug (c : OC) (i m : Nat) (g : Int → Int → Int) (dv : DE) : DS := fun Dd ρ cs => match ρ[i]? with
  | some (.o c' j) => c' = c ∧ ∃ ds n, cs[j]? = some ds ∧ ds[m]? = some (.int n) ∧ dv ρ cs Dd.ex fun y cs1 => match y with
    | .int k => ∃ ds1, cs1[j]? = some ds1 ∧ m < ds1.length ∧ Dd.nx 0 ρ (cs1.set j (ds1.set m (.int (g n k))))
    | _ => False
  | _ => False
theorem q_faug {o e : Expr} {f : Str} {pos tpos : Pos} {op : Operator} {g : Int → Int → Int} {dv : DE} (c : OC) (i m : Nat) (hop : InOp X op (rIn g)) (hc : OCk X.K c) (ho : PE X o (tVar i)) (hv : QE X E e dv) (hx : fIx c.fs f = some m := by decide +kernel) (hw : ownAt c.fs m = false := by rfl) : QS X E (.AugAssign (.Attribute o f tpos) op e pos) (dFAug c i m g dv) := by
  obtain ⟨tv, v1, v2⟩ := hv.ex
  refine ⟨_, ps_fldaug ho v1 hop, fun as σ H ρ cs D Dd w ev ek h S => ?_⟩
  unfold dFAug at h
  cases q : ρ[i]? with
  | none => rw [q] at h; exact h.elim
  | some sl =>
    rw [q] at h
    obtain ⟨o, hoo, hs⟩ := pr_get ev q
    cases sl with
    | o c' j =>
      obtain ⟨rfl, ds, n, h2, h3, h4⟩ := h
      obtain ⟨a, g1, rfl⟩ := hs
      obtain ⟨dx, vs, g2, g3⟩ := w.obj g1 h2
      obtain ⟨v, g4, g5⟩ := g3.get h3
      rw [hw] at g5
      cases g5
      refine ⟨_, hoo, a, _, dx, _, _, rfl, g2, hc.cls, hc.no hx, by rw [lk_fz hx]; exact g4, v2 as σ H ρ cs Dd.ex _ _ w ev ek h4 fun u H1 y cs1 e1 w1 d1 h5 => ?_⟩
      cases d1 <;> try exact h5.elim
      obtain ⟨ds1, k1, k2, k3⟩ := h5
      obtain ⟨dx1, vs1, k4, k5⟩ := w1.obj g1 k1
      obtain ⟨w2, e2⟩ := w1.putD (x := .int _) (v := .int _) g1 k4 k5 hw (fIx_lt hx) (Nat.le_of_lt k2) (.int _)
      have hz := hc.sz
      refine ⟨_, _, rfl, rfl, dx1, _, k4, by rw [fz_len k5.len.2]; have := k5.len.2; omega, ?_⟩
      rw [put_fz hx (by rw [k5.len.1]; exact Nat.le_of_lt k2)]
      refine S.nx [] σ _ ρ _ Nw.nil (e1.trans e2) w2 ((ev.ext e1).ext e2) ?_
      unfold setF
      rw [if_pos k2]
      exact k3
    | _ => exact h.elim
/-! ### own lists are written: what is put in is told by an expression that changes nothing -/
theorem frz_run {t : TE} {dv : DE} {as : List CA} {σ : L2.St} {H : Hp} {ρ : List Sl} {cs : CS} {Ed : XD} {Qd : PyData → Prop} {Q : VK} (v2 : SE K E t dv) (w : Wk K H as cs) (ev : Ev K H as σ ρ) (ek : EK K E Ed as H) (h : dv (ρ.map (disSl cs.length cs)) [] (fun C _ => Ed C cs) fun x _ => noL x = true ∧ Qd x)
    (k : ∀ v H' x, Same H H' → Wk K H' as cs → Dq K (hid H' as) v x → Qd x → Q v H') : t σ H Q :=
  v2 [] σ H _ [] _ _ _ Wk.nil (ev.frz w) (ek_frz ek w) h fun v H' x cs' e w' d q => by
    rw [hid_nil] at d
    exact k v H' x e.nil (w.grow e.nil) (d.free (w.grow e.nil).lists q.1) q.2
def dFApp (c : OC) (i m : Nat) (dv : DE) : DS := fun Dd ρ cs => match ρ[i]? with
  | some (.o c' j) => c' = c ∧ ∃ ds es, cs[j]? = some ds ∧ ds[m]? = some (.list es) ∧ dv (ρ.map (disSl cs.length cs)) [] (fun C _ => Dd.ex C cs) fun x _ => noL x = true ∧ es.length < sizeLine ∧ Dd.nx 0 ρ (cs.set j (ds.set m (.list (es ++ [x]))))
  | _ => False
/-- the list behind o.f -/
theorem own_list {as : List CA} {H : Hp} {cs : CS} {j m : Nat} {a : Addr} {c : OC} {ds es : List PyData} (w : Wk K H as cs) (g1 : as[j]? = some ⟨a, .obj c⟩) (h2 : cs[j]? = some ds) (h3 : ds[m]? = some (.list es)) (hw : ownAt c.fs m = true) :
    ∃ dx vs l xs, H a = some (.ins (He.ga K c.nm) dx (fz c.fs vs)) ∧ FldAll K H as c.fs vs ds ∧ vs[m]? = some (.ref l) ∧ H l = some (.lst xs) ∧ DqAll K (hid H as) xs es := by
  obtain ⟨dx, vs, g2, g3⟩ := w.obj g1 h2
  obtain ⟨v, g4, g5⟩ := g3.get h3
  rw [hw] at g5
  obtain ⟨l, xs, es', rfl, e2, g6, g7⟩ := g5
  cases e2
  exact ⟨dx, vs, l, xs, g2, g3, g4, g6, g7⟩
theorem q_fapp {o e : Expr} {f : Str} {pos fpos apos cpos : Pos} {dv : DE} (c : OC) (i m : Nat) (hc : OCk X.K c) (ho : PE X o (tVar i)) (hv : QE X E e dv) (hx : fIx c.fs f = some m := by decide +kernel) (hw : ownAt c.fs m = true := by rfl) (hb : attributeBase o f X.env (eval o X.env) = eval o X.env := by rfl)
    (hs0 : swapsWith (.Call (.Attribute (.Attribute o f fpos) "append" apos) [e] [] cpos) none pos.line X.env = pure false := by rfl)
    (hbase : attributeBase (.Attribute o f fpos) "append" X.env (eval (.Attribute o f fpos) X.env) = eval (.Attribute o f fpos) X.env := by rfl)
    (hfew : ((backTo cpos (starEach [e] X.env)).all (fun x => !x.1) && (backToKw cpos (keywordEach [] X.env)).all (fun x => x.1.isSome)
      && decide (([e] : List Expr).length + ([] : List Keyword).length + (if ([] : List Keyword).isEmpty then 0 else 1) < 30)) = true := by rfl)
    (hline : (apos.endLine == cpos.line) = true := by rfl) (hs : starEach [e] X.env = (false, eval e X.env) :: starEach [] X.env := by rfl) (hplain : (backTo cpos (starEach [] X.env)).any (·.1) = false := by rfl) :
    QS X E (.Expr (.Call (.Attribute (.Attribute o f fpos) "append" apos) [e] [] cpos) pos) (dFApp c i m dv) := by
  obtain ⟨tv, v1, v2⟩ := hv.ex
  refine ⟨_, ps_expr (pe_bm PySem.F.plainAttrs_list PySem.F.slot_list_append PySem.F.type_list_append mt_append (pe_fld ho hb) (pa_cons v1 pa_nil hs) hbase hfew hline hs hplain) hs0, fun as σ H ρ cs D Dd w ev ek h S => ?_⟩
  unfold dFApp at h
  cases q : ρ[i]? with
  | none => rw [q] at h; exact h.elim
  | some sl =>
    rw [q] at h
    obtain ⟨o, hoo, hs⟩ := pr_get ev q
    cases sl with
    | o c' j =>
      obtain ⟨rfl, ds, es, h2, h3, h4⟩ := h
      obtain ⟨a, g1, rfl⟩ := hs
      obtain ⟨dx, vs, l, xs, g2, g3, g4, g6, g7⟩ := own_list w g1 h2 h3 hw
      refine ⟨_, hoo, a, _, dx, _, .ref l, rfl, g2, hc.cls, hc.no hx, by rw [lk_fz hx]; exact g4, (Or.inl ⟨rfl, xs, SqL.of g6⟩ : tyV X.K "list" (.ref l) H), frz_run v2 w ev ek h4 fun v H1 x s1 w1 d1 h5 => ?_⟩
      obtain ⟨h6, h7⟩ := h5
      have e1 : Ext as H H1 := Ext.of s1
      have g3' := g3.move e1.hid (fun b hb o q => s1 b o q)
      obtain ⟨w2, e2, _⟩ := w1.putL g1 (s1 _ _ g2) g3' hw g4 ((g7.mono e1.hid).app (.one d1))
      exact ⟨l, xs, v, rfl, rfl, s1 _ _ g6, by rw [g7.len]; exact h6, S.nx [] σ _ ρ _ Nw.nil (e1.trans e2) w2 ((ev.ext e1).ext e2) h7⟩
    | _ => exact h.elim
/-- o.f.pop() -/
def dFPop (c : OC) (i m : Nat) : DE := fun ρ cs _ Q => match ρ[i]? with
  | some (.o c' j) => c' = c ∧ ∃ ds es x, cs[j]? = some ds ∧ ds[m]? = some (.list (es ++ [x])) ∧ Q x (cs.set j (ds.set m (.list es)))
  | _ => False
theorem q_fpop {o : Expr} {f : Str} {fpos apos cpos : Pos} (c : OC) (i m : Nat) (hc : OCk X.K c) (ho : PE X o (tVar i)) (hx : fIx c.fs f = some m := by decide +kernel) (hw : ownAt c.fs m = true := by rfl) (hb : attributeBase o f X.env (eval o X.env) = eval o X.env := by rfl)
    (hbase : attributeBase (.Attribute o f fpos) "pop" X.env (eval (.Attribute o f fpos) X.env) = eval (.Attribute o f fpos) X.env := by rfl) (hline : (apos.endLine == cpos.line) = true := by rfl) :
    QE X E (.Call (.Attribute (.Attribute o f fpos) "pop" apos) [] [] cpos) (dFPop c i m) := by
  refine ⟨_, pe_bm0 PySem.F.plainAttrs_list PySem.F.slot_list_pop PySem.F.type_list_pop mt_pop (pe_fld ho hb) hbase hline, fun as σ H ρ cs Ed Qd Q w ev ek h kk => ?_⟩
  unfold dFPop at h
  cases q : ρ[i]? with
  | none => rw [q] at h; exact h.elim
  | some sl =>
    rw [q] at h
    obtain ⟨o, hoo, hs⟩ := pr_get ev q
    cases sl with
    | o c' j =>
      obtain ⟨rfl, ds, es, x, h2, h3, h4⟩ := h
      obtain ⟨a, g1, rfl⟩ := hs
      obtain ⟨dx, vs, l, xs, g2, g3, g4, g6, g7⟩ := own_list w g1 h2 h3 hw
      have hl : xs.length = es.length + 1 := by rw [g7.len]; simp
      obtain ⟨v, k1, k2⟩ := g7.get (i := es.length) (d := x) (by simp)
      have kt : DqAll X.K (hid H as) xs.dropLast es := by
        have z := g7.take es.length
        rw [List.take_left] at z
        rw [List.dropLast_eq_take, hl]
        simpa using z
      obtain ⟨w2, e2, hh⟩ := w.putL g1 g2 g3 hw g4 kt
      refine ⟨_, hoo, a, _, dx, _, .ref l, rfl, g2, hc.cls, hc.no hx, by rw [lk_fz hx]; exact g4, (Or.inl ⟨rfl, xs, SqL.of g6⟩ : tyV X.K "list" (.ref l) H), l, xs, v, rfl, rfl, g6, by rw [hl]; simpa using k1, ?_⟩
      exact kk v _ x _ e2 w2 (by rw [hh]; exact k2) h4
    | _ => exact h.elim
/-- o.f[e] = e' -/
def dFStore (c : OC) (i m : Nat) (di dv : DE) : DS := fun Dd ρ cs => match ρ[i]? with
  | some (.o c' j) => c' = c ∧ ∃ ds es, cs[j]? = some ds ∧ ds[m]? = some (.list es) ∧ dv (ρ.map (disSl cs.length cs)) [] (fun C _ => Dd.ex C cs) fun x _ => noL x = true ∧ di (ρ.map (disSl cs.length cs)) [] (fun C _ => Dd.ex C cs) fun y _ => noL y = true ∧ match y with
    | .int n => ∃ k, ixN es.length n = some k ∧ Dd.nx 0 ρ (cs.set j (ds.set m (.list (es.set k x))))
    | _ => False
  | _ => False
theorem q_fstore {o ie e : Expr} {f : Str} {fpos pos p2 : Pos} {di dv : DE} (c : OC) (i m : Nat) (hc : OCk X.K c) (ho : PE X o (tVar i)) (hi : QE X E ie di) (hv : QE X E e dv) (hx : fIx c.fs f = some m := by decide +kernel) (hw : ownAt c.fs m = true := by rfl) (hb : attributeBase o f X.env (eval o X.env) = eval o X.env := by rfl)
    (ha : ∀ v, assign (.Subscript (.Attribute o f fpos) ie p2) X.env v = (do
      let ov ← holding [v] (eval (.Attribute o f fpos) X.env)
      let iv ← holding [v, ov] (eval ie X.env)
      standAt p2
      holding [v, ov, iv] (setItem ov iv v)
      release [v, ov, iv] []) := by intro _; rfl)
    (hs : swapsWithSole [.Subscript (.Attribute o f fpos) ie p2] e pos.line X.env = pure false := by rfl) (hww : swappedStores [.Subscript (.Attribute o f fpos) ie p2] e X.env = pure none := by rfl)
    (h1 : (assignEach [.Subscript (.Attribute o f fpos) ie p2] X.env).map (·.2) = [assign (.Subscript (.Attribute o f fpos) ie p2) X.env] := by rfl) : QS X E (.Assign [.Subscript (.Attribute o f fpos) ie p2] e pos) (dFStore c i m di dv) := by
  obtain ⟨ti, i1, i2⟩ := hi.ex
  obtain ⟨tv, v1, v2⟩ := hv.ex
  refine ⟨_, ps_asg v1 (pg_sub (pe_fld ho hb) i1 set_list ha) hs hww h1, fun as σ H ρ cs D Dd w ev ek h S => ?_⟩
  unfold dFStore at h
  cases q : ρ[i]? with
  | none => rw [q] at h; exact h.elim
  | some sl =>
    rw [q] at h
    obtain ⟨o, hoo, hs⟩ := pr_get ev q
    cases sl with
    | o c' j =>
      obtain ⟨rfl, ds, es, h2, h3, h4⟩ := h
      obtain ⟨a, g1, rfl⟩ := hs
      refine frz_run v2 w ev ek h4 fun v H1 x s1 w1 d1 h5 => ?_
      obtain ⟨dx, vs, l, xs, g2, g3, g4, g6, g7⟩ := own_list w1 g1 h2 h3 hw
      have e1 : Ext as H H1 := Ext.of s1
      have ek1 : EK X.K E Dd.ex as H1 := ek.ext e1
      refine ⟨_, hoo, a, _, dx, _, .ref l, rfl, g2, hc.cls, hc.no hx, by rw [lk_fz hx]; exact g4, ?_⟩
      refine frz_run (Qd := fun y => match y with
        | .int n => ∃ k, ixN es.length n = some k ∧ Dd.nx 0 ρ (cs.set j (ds.set m (.list (es.set k x))))
        | _ => False) i2 w1 (ev.ext e1) ek1 h5 fun u H2 y s2 w2 d2 h6 => ?_
      cases d2 <;> try exact h6.elim
      obtain ⟨k, h7, h8⟩ := h6
      have e2 : Ext as H1 H2 := Ext.of s2
      have g3' := g3.move e2.hid (fun b hb o q => s2 b o q)
      obtain ⟨w3, e3, _⟩ := w2.putL g1 (s2 _ _ g2) g3' hw g4 ((g7.mono e2.hid).set (d1.mono e2.hid) k)
      exact ⟨l, xs, _, k, rfl, rfl, s2 _ _ g6, by rw [g7.len]; exact h7, S.nx [] σ _ ρ _ Nw.nil ((e1.trans e2).trans e3) w3 (((ev.ext e1).ext e2).ext e3) h8⟩
    | _ => exact h.elim
end
end Kp

namespace Kp
open PySem PySem.Spec PyProof.Rows L2
section
variable {K : Frag} {E : XK} {X : Cx}
theorem ar_sh {H H' : Hp} {as ex : List CA} (hf : Nw H H' ex) (s : Ext as H H') : ∀ {vs : List V} {ss : List Sl}, Ar K H as vs ss → Ar K H' (ex ++ as) vs (ss.map (shSl ex.length))
  | _, _, .nil => .nil
  | _, _, .cons (a := v) (b := sl) h t => by
    refine .cons ⟨?_, fun z => h.2 ?_⟩ (ar_sh hf s t)
    · have e : Ev K H as [some v] [sl] := .cons h.1 .nil
      have e2 := Ev.sh hf e s
      cases e2 with
      | cons r _ => exact r
    · cases sl with
      | no => rfl
      | _ => cases z
/-! ### methods -/
structure CalM (P : Program) (w : World) (K : Frag) (mg : Str → Option Value) (base : Heap) (k : Nat) (c : OC) (m : Str) (ps : List Str) (f : FD) : Prop where
  ex : ∃ (a : Addr) (fd : FuncData), L2.Meth K (He.ga K c.nm) m a ∧ FnOk P w K mg base (L2.CX P w) k a fd ps (spD K f) ∧ Binds K fd ps []
def dMeth (c : OC) (i : Nat) (f : FD) (da : DA) : DE := fun ρ cs Ed Q => match ρ[i]? with
  | some (.o c' j) => c' = c ∧ da ρ cs Ed fun ss cs1 => f (.o c j :: ss) cs1 Ed Q
  | _ => False
theorem se_meth {c : OC} {i : Nat} {m : Str} {f : FD} {t : TA} {da : DA} (hm : fIx c.fs m = none) (a2 : SA K E t da) : SE K E (tMeth (He.ga K c.nm) m (spD K f) [] E (tVar i) t) (dMeth c i f da) := fun as σ H ρ cs Ed Qd Q w ev ek h kk => by
  unfold dMeth at h
  cases q : ρ[i]? with
  | none => rw [q] at h; exact h.elim
  | some sl =>
    rw [q] at h
    obtain ⟨o, hoo, hs⟩ := pr_get ev q
    cases sl with
    | o c' j =>
      obtain ⟨rfl, h1⟩ := h
      obtain ⟨a, g1, rfl⟩ := hs
      obtain ⟨ds, k1, -⟩ := pr_get' w.cel g1
      obtain ⟨dx, vs, g2, -⟩ := w.obj g1 k1
      refine ⟨_, hoo, a, dx, _, rfl, g2, lk_none hm, a2 as σ H ρ cs Ed _ _ w ev ek h1 fun us H1 ss cs1 e1 w1 d1 h2 => ?_⟩
      refine ⟨as, .o c' j :: ss, cs1, Ed, Qd, w1, ?_, ek.ext e1, h2, fun v H' x cs' e2 w2 d2 q2 => kk v H' x cs' (e1.trans e2) w2 d2 q2⟩
      rw [List.append_nil]
      exact .cons ⟨⟨a, g1, rfl⟩, fun z => by cases z⟩ d1
    | _ => exact h.elim
theorem q_meth {k : Nat} {o e : Expr} {es : List Expr} {m : Str} {apos pos : Pos} {ps : List Str} {f : FD} {da : DA} {pl : Sem Bool} (c : OC) (i : Nat) (hc : OCk X.K c) (F : CalM X.prog X.w X.K X.mg X.base k c m ps f) (hr : Room k X.A) (hx : Passes (L2.CX X.prog X.w) X E) (ho : PE X o (tVar i)) (ha : QA X E (e :: es) da)
    (hn : fIx c.fs m = none := by decide +kernel) (hs : starEach (e :: es) X.env = (false, eval e X.env) :: starEach es X.env := by rfl) (hpl : (backTo pos (starEach es X.env)).any (·.1) = false := by rfl)
    (hev : eval (.Call (.Attribute o m apos) (e :: es) [] pos) X.env = (do
      let ov ← eval o X.env
      standAt apos.atName
      let __x ← holding [ov] (getMethod ov m pl)
      match __x with
      | (f, first) => callWith pos f first (backTo pos (starEach (e :: es) X.env)) (backToKw pos (keywordEach [] X.env))) := by rfl) :
    QE X E (.Call (.Attribute o m apos) (e :: es) [] pos) (dMeth c i f da) := by
  obtain ⟨a, fd, h1, h2, h3⟩ := F.ex
  obtain ⟨ta, a1, a2⟩ := ha.ex
  exact ⟨_, pe_meth ho hc.cls h1 h2 hr h3 .nil hx a1 hs hpl hev, se_meth hn a2⟩
theorem q_meth0 {k : Nat} {o : Expr} {m : Str} {apos pos : Pos} {ps : List Str} {f : FD} {pl : Sem Bool} (c : OC) (i : Nat) (hc : OCk X.K c) (F : CalM X.prog X.w X.K X.mg X.base k c m ps f) (hr : Room k X.A) (hx : Passes (L2.CX X.prog X.w) X E) (ho : PE X o (tVar i))
    (hn : fIx c.fs m = none := by decide +kernel)
    (hev : eval (.Call (.Attribute o m apos) [] [] pos) X.env = (do
      let ov ← eval o X.env
      standAt apos.atName
      let __x ← holding [ov] (getMethod ov m pl)
      match __x with
      | (f, first) => callWith pos f first (backTo pos (starEach [] X.env)) (backToKw pos (keywordEach [] X.env))) := by rfl) :
    QE X E (.Call (.Attribute o m apos) [] [] pos) (dMeth c i f dNil) := by
  obtain ⟨a, fd, h1, h2, h3⟩ := F.ex
  obtain ⟨ta, a1, a2⟩ := (q_nil (X := X) (E := E)).ex
  exact ⟨_, pe_meth0 ho hc.cls h1 h2 hr h3 .nil hx hev, se_meth hn fun as σ H ρ cs Ed Qd Q w ev ek h k => k [] H [] cs Ext.refl w .nil h⟩
/-! ### new objects -/
/-- the slot of a cell of such a kind -/
def slKd : Kd → Nat → Sl
  | .lst, j => .c j
  | .dic ks, j => .k ks j
  | .obj c, j => .o c j
  | .tab _ _, _ => .no
theorem slKd_ok {H : Hp} {as : List CA} {p : Addr} {kd : Kd} {j : Nat} (h : as[j]? = some ⟨p, kd⟩) : SlOk K H as (some (.ref p)) (slKd kd j) := by
  cases kd with
  | lst => exact ⟨p, h, rfl⟩
  | dic ks => exact ⟨p, h, rfl⟩
  | obj c => exact ⟨p, h, rfl⟩
  | tab nm q => trivial
def SNo (K : Frag) (E : XK) (kd : Kd) (t : TE) (d : DL) : Prop := ∀ (as : List CA) (σ : L2.St) (H : Hp) (ρ : List Sl) (cs : CS) (Ed : XD) (Qd : List PyData → CS → Prop) (Q : VK),
  Wk K H as cs → Ev K H as σ ρ → EK K E Ed as H → d ρ cs Ed Qd → (∀ p H' ds cs', Ext as H H' → Nw H H' [⟨p, kd⟩] → Wk K H' (⟨p, kd⟩ :: as) (ds :: cs') → Qd ds cs' → Q (.ref p) H') → t σ H Q
structure QNo (X : Cx) (E : XK) (kd : Kd) (e : Expr) (d : DL) : Prop where
  ex : ∃ t, PE X e t ∧ SNo X.K E kd t d
structure CalI (P : Program) (w : World) (K : Frag) (mg : Str → Option Value) (base : Heap) (k : Nat) (c : OC) (ps : List Str) (f : FD) : Prop where
  ex : ∃ (a : Addr) (fd : FuncData), L2.Mk K (He.ga K c.nm) a ∧ mg c.nm = some (.ref (He.ga K c.nm)) ∧ FnOk P w K mg base (L2.CX P w) k a fd ps (spD K f) ∧ Binds K fd ps []
/-- C(e, ..): its __init__ on an object without fields -/
def dMk (c : OC) (f : FD) (da : DA) : DL := fun ρ cs Ed Q => da ρ cs Ed fun ss cs1 => f (.o c 0 :: ss.map (shSl 1)) ([] :: cs1) (fun C cs' => Ed C (cs'.drop 1)) fun x cs2 => x = .none ∧ match cs2 with
  | ds :: cs3 => Q ds cs3
  | [] => False
theorem sno_mk {c : OC} {f : FD} {t : TA} {da : DA} (a2 : SA K E t da) : SNo K E (.obj c) (tMake (He.ga K c.nm) (spD K f) [] E t) (dMk c f da) := fun as σ H ρ cs Ed Qd Q w ev ek h kk => by
  refine a2 as σ H ρ cs Ed _ _ w ev ek h fun vs H1 ss cs1 e1 w1 d1 h1 p dx hp hd hne => ?_
  obtain ⟨H2, hH2⟩ : ∃ H2, H2 = upd (upd H1 dx (.own p)) p (.ins (He.ga K c.nm) dx []) := ⟨_, rfl⟩
  rw [← hH2]
  have hp' : (upd H1 dx (.own p)) p = none := by rw [upd_ne hne.symm]; exact hp
  have s1 : Same H1 H2 := fun b o q => by rw [hH2]; exact Same.new hp' b o (Same.new hd b o q)
  have h2 : H2 p = some (.ins (He.ga K c.nm) dx (fz c.fs [])) := by rw [hH2, fz_nil]; exact upd_same
  have ea : adr H2 ⟨p, .obj c⟩ = [p] := by rw [adr_obj h2, refs_nil]
  have nw : Nw H1 H2 [⟨p, .obj c⟩] := ⟨fun i g q => by
    cases i with
    | zero => cases q; rw [own_at h2]; rfl
    | succ i => simp at q, fun b hb => by
      have hb' : b ∈ hdl H2 [⟨p, .obj c⟩] := hb
      rw [hdl_cons, ea] at hb'
      have hb2 : b ∈ [p] := by simpa [hdl] using hb'
      rw [List.mem_singleton.mp hb2]; exact hp⟩
  have x1 : Ext as H1 H2 := Ext.of s1
  have w2 : Wk K H2 (⟨p, .obj c⟩ :: as) ([] :: cs1) := by
    refine ⟨?_, .cons ⟨dx, [], h2, .nil⟩ (pr_map (fun f ds q => q.move (hid_sh (ex := [⟨p, .obj c⟩]) nw x1) fun b _ o h => s1 _ _ h) w1.cel)⟩
    rw [hdl_cons, ea, hdl_same w1.lv s1]
    exact List.nodup_cons.mpr ⟨(w1.fresh hp).2, w1.nd⟩
  have ek2 : EK K E (fun C cs' => Ed C (cs'.drop 1)) (⟨p, .obj c⟩ :: as) H2 := fun C H' cs' e' w' q => ek C H' (cs'.drop 1) ((e1.trans x1).cut (ex := [⟨p, .obj c⟩]) (nw.back e1) e') (Wk.drop (ex := [⟨p, .obj c⟩]) w') q
  refine ⟨⟨p, .obj c⟩ :: as, .o c 0 :: ss.map (shSl 1), [] :: cs1, _, _, w2, ?_, ek2, h1, fun v H' x cs' e2 w3 d2 q2 => ?_⟩
  · rw [List.append_nil]
    exact .cons ⟨⟨p, rfl, rfl⟩, fun z => by cases z⟩ (ar_sh (ex := [⟨p, .obj c⟩]) nw x1 d1)
  · obtain ⟨rfl, q3⟩ := q2
    cases d2
    cases cs' with
    | nil => exact q3.elim
    | cons ds cs3 => exact ⟨rfl, kk p H' ds cs3 ((e1.trans x1).cut (ex := [⟨p, .obj c⟩]) (nw.back e1) e2) ((nw.go (as := as) e2 (Same.dm s1)).back e1) w3 q3⟩
theorem q_mk {k : Nat} {e : Expr} {es : List Expr} {p pos : Pos} {ps : List Str} {f : FD} {da : DA} (c : OC) (F : CalI X.prog X.w X.K X.mg X.base k c ps f) (hr : Room (k + 1) X.A) (hx : Passes (L2.CX X.prog X.w) X E) (ha : QA X E (e :: es) da)
    (hg : Gl X c.nm := by rfl) (hdb : (c.nm == ("__debug__" : Str)) = false := by decide) (hs : starEach (e :: es) X.env = (false, eval e X.env) :: starEach es X.env := by rfl) (hpl : (backTo pos (starEach es X.env)).any (·.1) = false := by rfl) :
    QNo X E (.obj c) (.Call (.Name c.nm p) (e :: es) [] pos) (dMk c f da) := by
  obtain ⟨a, fd, h1, h2, h3, h4⟩ := F.ex
  obtain ⟨ta, a1, a2⟩ := ha.ex
  exact ⟨_, pe_make h1 h3 hr hg h2 h4 .nil hx a1 hdb hs hpl, sno_mk a2⟩
/-- x = a new object -/
def dNewO (kd : Kd) (i : Nat) (d : DL) : DS := fun Dd ρ cs => d ρ cs Dd.ex fun ds cs1 => Dd.nx 1 ((ρ.map (shSl 1)).set i (slKd kd 0)) (ds :: cs1)
theorem q_newO {e : Expr} {pos pos' : Pos} {kd : Kd} {d : DL} {x : Str} (i : Nat) (hN : X.N.Nodup) (ha : QNo X E kd e d) (hi : X.N[i]? = some x := by rfl) (hx : Loc X.env.scope x := by first | exact Or.inl rfl | exact Or.inr rfl) (hs : swapsWith e (some (.Name x pos')) pos.line X.env = pure false := by rfl)
    (hf : X.fn x = true ∨ X.env.scope.names.lookup x = some .local := by first | exact .inl rfl | exact .inr rfl) : QS X E (.Assign [.Name x pos'] e pos) (dNewO kd i d) := by
  obtain ⟨ta, a1, a2⟩ := ha.ex
  refine ⟨_, ps_set hN hi hx a1 hs hf, fun as σ H ρ cs D Dd w ev ek h S => a2 as σ H ρ cs Dd.ex _ _ w ev ek h fun p H1 ds cs1 e1 nw w1 h1 => ?_⟩
  exact S.nx [⟨p, kd⟩] _ H1 _ (ds :: cs1) nw e1 w1 (ev_set (s := slKd kd 0) (Ev.sh nw ev e1) i (slKd_ok rfl)) h1
/-- return a new object -/
def dRetO (kd : Kd) (d : DL) : DS := fun Dd ρ cs => d ρ cs Dd.ex fun ds cs1 => Dd.rf kd ds cs1
theorem q_retO {e : Expr} {pos : Pos} {kd : Kd} {d : DL} (h : QNo X E kd e d) : QS X E (.Return (some e) pos) (dRetO kd d) := by
  obtain ⟨t, a1, a2⟩ := h.ex
  refine ⟨_, ps_ret a1, fun as σ H ρ cs D Dd w ev ek h S => a2 as σ H ρ cs Dd.ex _ _ w ev ek h fun p H1 ds cs1 e1 nw w1 h1 => ?_⟩
  have w2 := w1.pick (j := 0) (m := Dd.m + 1) (f := ⟨p, kd⟩) (ds := ds) rfl (by omega) rfl
  exact S.rf p kd H1 ds cs1 e1 (.inl nw) w2 h1
/-! ### a dict of words as an expression -/
def dKDisp (ks : List Str) (ds : List DE) : DL := fun ρ cs Ed Q => dAll ds (ρ.map (shSl 1)) ([] :: cs) (fun C cs' => Ed C (cs'.drop 1)) fun xs cs1 => match cs1 with
  | _ :: cs2 => (ks.Nodup ∧ ks.length < 15) ∧ Q xs cs2
  | [] => False
theorem q_kdisp {keys : List (Option Expr)} {values : List Expr} {p2 : Pos} {ks : List Str} {ds : List DE} (hp : QP X E p2 keys values ks ds) (hall : keys.all (·.isSome) = true := by rfl) (hlen : keys.length = values.length := by rfl) (h0 : keys ≠ [] := by intro z; cases z) (h15 : keys.length ≤ 15 := by decide) :
    QNo X E (.dic ks) (.Dict keys values p2) (dKDisp ks ds) := by
  obtain ⟨trs, a1, a2⟩ := hp.ex
  refine ⟨_, pe_disp a1 hall hlen h0 h15, fun as σ H ρ cs Ed Qd Q w ev ek h kk => fun p hp => ?_⟩
  have hf1 : ∀ {H' : Hp}, Nw H H' [⟨p, .dic []⟩] := Nw.dic hp
  have e0 : Ext as H (upd H p (.dK [])) := Ext.of (Same.new hp)
  have w0 := w.newk hp
  refine a2 (⟨p, .dic []⟩ :: as) σ _ _ _ _ _ _ w0 (Ev.sh hf1 ev e0) (fun C H2 cs2 e2 w2 q => ek C H2 _ (e0.cut (ex := [⟨p, .dic []⟩]) hf1 e2) (Wk.drop (ex := [⟨p, .dic []⟩]) w2) q) h fun vs H1 xs cs1 e1 w1 d1 hl h1 => ?_
  cases cs1 with
  | nil => exact h1.elim
  | cons c0 cs2 =>
    obtain ⟨⟨z1, z2⟩, h2⟩ := h1
    cases w1.cel with
    | cons c _ =>
      obtain ⟨vs0, c1, c2, _⟩ := c
      have e3 : H1 p = some (.dK []) := by
        rw [c1]
        cases vs0 with
        | nil => rfl
        | cons a b => simp at c2
      refine ⟨e3, kvz ks vs, rfl, by rw [kvz_len hl]; omega, ?_⟩
      rw [merge_kvz z1 hl (fun _ _ => rfl), List.nil_append]
      have w2 := w1.kind hl d1
      have e4 : Ext as H (upd H1 p (.dK (kvz ks vs))) := e0.cut (ex := [⟨p, .dic []⟩]) hf1 (e1.trans (ext_updK w1 (j := 0) rfl))
      exact kk p _ xs cs2 e4 (Nw.dic hp) w2 h2
/-! ### defs that hand back something new of one's own -/
def spO (K : Frag) (kd : Kd) (f : FN) : Sp := fun vs H Q E => ∃ (as : List CA) (ss : List Sl) (cs : CS) (Ed : XD) (Qn : List PyData → CS → Prop), Wk K H as cs ∧ Ar K H as vs ss ∧ EK K E Ed as H ∧ f ss cs Ed Qn ∧
  ∀ p H' ds cs', Ext as H H' → Nw H H' [⟨p, kd⟩] → Wk K H' (⟨p, kd⟩ :: as) (ds :: cs') → Qn ds cs' → Q (.ref p) H'
structure CalO (P : Program) (w : World) (K : Frag) (mg : Str → Option Value) (base : Heap) (k : Nat) (kd : Kd) (name : Str) (ps : List Str) (f : FN) : Prop where
  ex : ∃ (a : Addr) (fd : FuncData), mg name = some (.ref a) ∧ PySem.W.keepIn K (.ref a) = true ∧ FnOk P w K mg base (L2.CX P w) k a fd ps (spO K kd f) ∧ Binds K fd ps []
def DNO (kd : Kd) (Qo : List PyData → CS → Prop) (Ed : XD) : DN where
  m := 0
  nx := fun _ _ _ => False
  rt := fun _ _ => False
  rf := fun kd' ds cs => kd' = kd ∧ Qo ds cs
  bk := fun _ _ _ => False
  ct := fun _ _ _ => False
  ex := Ed
theorem q_ocall {k : Nat} {kd : Kd} {name : Str} {ps : List Str} {f : FN} {e : Expr} {es : List Expr} {p pos : Pos} {da : DA} (F : CalO X.prog X.w X.K X.mg X.base k kd name ps f) (hr : Room k X.A) (hx : Passes (L2.CX X.prog X.w) X E) (ha : QA X E (e :: es) da)
    (hg : Gl X name := by rfl) (hdb : (name == ("__debug__" : Str)) = false := by decide) (he : starEach (e :: es) X.env = (false, eval e X.env) :: starEach es X.env := by rfl) (hpl : (backTo pos (starEach es X.env)).any (·.1) = false := by rfl) :
    QNo X E kd (.Call (.Name name p) (e :: es) [] pos) (dNCall f da) := by
  obtain ⟨a, fd, h1, h2, h3, h4⟩ := F.ex
  obtain ⟨ta, a1, a2⟩ := ha.ex
  refine ⟨_, pe_call h3 hr hg h1 h2 h4 .nil hx a1 hdb he hpl, fun as σ H ρ cs Ed Qd Q w ev ek h k => a2 as σ H ρ cs Ed _ _ w ev ek h fun vs H1 ss cs1 e1 w1 d1 h1 => ?_⟩
  exact ⟨as, ss, cs1, Ed, Qd, w1, by rw [List.append_nil]; exact d1, ek.ext e1, h1, fun p H' ds cs' e2 nw w2 q => k p H' ds cs' (e1.trans e2) (nw.back e1) w2 q⟩
end
section
variable {P : Program} {w : World} {K : Frag} {mg : Str → Option Value} {base : Heap} {name qual : Str} {st : Stmt} {a : Addr} {fd : FuncData} {N ps : List Str} {k : Nat} {dvs : List V} {kws : List (Str × V)}
theorem calO_of {kd : Kd} {f : FN} {ds : DS} (F : FunD K name qual (defArgs st) (defBody st) (defScope st) dvs kws a fd) (S : FnScope N ps (defScope st)) (hb : Binds K fd ps []) (hm : mg name = some (.ref a)) (hlen : ∀ ss cs Ed Q, f ss cs Ed Q → ss.length = ps.length)
    (body : ∀ (cdv : Value) (A : Around) (outer : List Env) (s : Shared) (H : Hp) (E : XK), Room k (A.deeper (envOfC qual (defScope st) s.heap.objs.size a cdv)) → QSs (cxOf (L2.CX P w) P w K mg base N qual (defScope st) a cdv A outer s H E) E (defBody st) ds)
    (hf : ∀ ss cs Ed Qn, f ss cs Ed Qn → ds (DNO kd Qn Ed) (ss ++ List.replicate (N.length - ss.length) .no) cs) : CalO P w K mg base (k + 1) kd name ps f := by
  refine ⟨a, fd, hm, F.kp, F.ok S (fun vs H Q E h => ?_) (fun cdv A outer s H vs Q E hr h => ?_), hb⟩
  · obtain ⟨as, ss, cs, Ed, Qd, _, h2, _, h4, _⟩ := h
    rw [pr_len h2]
    exact hlen _ _ _ _ h4
  · obtain ⟨as, ss, cs, Ed, Qn, h1, h2, h3, h4, h5⟩ := h
    obtain ⟨t, b1, b2⟩ := (body cdv A outer s H E hr).ex
    refine ⟨t, b1, b2 as _ H _ cs _ (DNO kd Qn Ed) h1 (ev_start N h2) h3 (hf _ _ _ _ h4) ⟨fun ex σ' H' ρ' cs' hf e w' ev q => q.elim, fun ex σ' H' ρ' cs' hf e w' ev q => q.elim, fun ex σ' H' ρ' cs' hf e w' ev q => q.elim, fun v H' x cs' e w' d q => q.elim, fun p kd' H' ds cs' e f' w' q => ?_⟩⟩
    obtain ⟨rfl, q⟩ := q
    rcases f' with f' | ⟨i, f1, f2⟩
    · exact h5 p H' ds cs' e f' w' q
    · exact absurd (show i < 0 from f1) (Nat.not_lt_zero i)
/-- a method keeps its promise -/
theorem calM_of {c : OC} {f : FD} {fa : Addr} {fdd : FuncData} (hM : L2.Meth K (He.ga K c.nm) name fa) (hF : FnOk P w K mg base (L2.CX P w) k fa fdd ps (spD K f)) (hb : Binds K fdd ps []) : CalM P w K mg base k c name ps f := ⟨fa, fdd, hM, hF, hb⟩
theorem calI_of {c : OC} {f : FD} {fa : Addr} {fdd : FuncData} (hM : L2.Mk K (He.ga K c.nm) fa) (hm : mg c.nm = some (.ref (He.ga K c.nm))) (hF : FnOk P w K mg base (L2.CX P w) k fa fdd ps (spD K f)) (hb : Binds K fdd ps []) : CalI P w K mg base k c ps f := ⟨fa, fdd, hM, hm, hF, hb⟩
end
/-! ### a new list told by an expression that changes nothing -/
section
variable {K : Frag} {E : XK} {X : Cx}
def dFrzN (dl : DL) : DL := fun ρ cs Ed Q => dl (ρ.map (disSl cs.length cs)) [] (fun C _ => Ed C cs) fun ds _ => noLs ds = true ∧ Q ds cs
theorem q_frzN {e : Expr} {dl : DL} (h : QN X E e dl) : QN X E e (dFrzN dl) := by
  obtain ⟨t, a1, a2⟩ := h.ex
  refine ⟨_, a1, fun as σ H ρ cs Ed Qd Q w ev ek h k => a2 [] σ H _ [] _ _ _ Wk.nil (ev.frz w) (ek_frz ek w) h fun p H' ds cs' e hp w' q => ?_⟩
  have s := e.nil
  have wg : Wk X.K H' as cs := w.grow s
  have nw : Nw H H' [cl p] := Nw.lst hp
  cases w'.cel with
  | cons c0 _ =>
    obtain ⟨xs, c1, c2⟩ := c0
    have hn : p ∉ hdl H' as := fun z => by
      rw [hdl_same w.lv s] at z
      obtain ⟨o, q⟩ := w.alh z
      rw [hp] at q; cases q
    have lvp : Lv H' (cl p :: as) := fun i g q => by
      cases i with
      | zero => cases q; rfl
      | succ i => exact wg.lv i g (by simpa using q)
    have ls : Lv H' (cl p :: as) ∧ ∀ a : Addr, a ∈ hdl H' (cl p :: as) → ∃ o, H' a = some o ∧ ((∃ xs, o = .lst xs) ∨ (∃ ks, o = .dK ks) ∨ (∃ C dx fs, o = .ins C dx fs) ∨ ∃ ps, o = .tbl ps) := ⟨lvp, fun a ha => by
      rcases List.mem_cons.mp (show a ∈ p :: hdl H' as from ha) with z | z
      · rw [z]; exact ⟨_, c1, .inl ⟨_, rfl⟩⟩
      · exact wg.lists.2 a z⟩
    refine k p H' ds cs (Ext.of s) hp ⟨(show (p :: hdl H' as).Nodup from List.nodup_cons.mpr ⟨hn, wg.nd⟩), .cons ⟨xs, c1, (c2.mono (hid_sub _ _)).free ls q.1⟩ (pr_map (fun f ds q => q.move (hid_sh (ex := [cl p]) nw (Ext.of s)) fun b _ o h => s _ _ h) w.cel)⟩ q.2
end
end Kp

namespace Kp
open PySem PySem.Spec PyProof.Rows L2
section
variable {K : Frag} {E : XK} {X : Cx}
/-! ### walks where a turn makes something new -/
def ItV (K : Frag) (as : List CA) (H1 : Hp) (J : It) (n : Nat) (item : Nat → PyData) : Prop := ∀ (ex : List CA) (H' : Hp) (cs' : CS), Nw H1 H' ex → Ext as H1 H' → Wk K H' (ex ++ as) cs' →
  (∀ i, i < n → J.go i H' ∧ ∀ x H3, J.yld i H' x H3 → Ext (ex ++ as) H' H3 ∧ Wk K H3 (ex ++ as) cs' ∧ Dq K (hid H3 (ex ++ as)) x (item i)) ∧ J.stop n H'
def SIV (K : Frag) (E : XK) (wi : TI) (d : DI) : Prop := ∀ (as : List CA) (σ : L2.St) (H : Hp) (ρ : List Sl) (cs : CS) (Ed : XD) (Qd : Nat → (Nat → PyData) → CS → Prop) (R : It → Hp → Prop),
  Wk K H as cs → Ev K H as σ ρ → EK K E Ed as H → d ρ cs Ed Qd → (∀ J H' n item cs', Ext as H H' → Wk K H' as cs' → ItV K as H' J n item → Qd n item cs' → R J H') → wi σ H R
structure QIV (X : Cx) (E : XK) (tg it : Expr) (d : DI) : Prop where
  ex : ∃ wi, PI X tg it wi ∧ SIV X.K E wi d
theorem itv_l {as : List CA} {H : Hp} {a : Addr} {xs : List V} {ds : List PyData} (h : hid H as a = some (.lst xs)) (d : DqAll K (hid H as) xs ds) : ItV K as H (Ite K a) ds.length (prI ds) := fun ex H' cs' fD e w => by
  have h' : SqL K H' a xs := SqL.of (hid1 (e.hid _ _ h))
  have d' := d.mono (same_sh fD e)
  refine ⟨fun i hi => ⟨?_, fun x H3 y => ?_⟩, xs, h', by rw [d.len]; exact Nat.le_refl _⟩
  · have hx : i < xs.length := by rw [d.len]; exact hi
    exact ⟨xs, xs[i], h', List.getElem?_eq_getElem hx⟩
  · obtain ⟨T, z, rfl, hT, rfl, hz⟩ := y
    exact pr_new w hT (hz xs h') d'
theorem itv_t {as : List CA} {H : Hp} {a : Addr} {xs : List V} {ds : List PyData} (h : SqT K (hid H as) a xs) (d : DqAll K (hid H as) xs ds) : ItV K as H (Itet K a) ds.length (prI ds) := fun ex H' cs' fD e w => by
  have h' : SqT K H' a xs := hidT (same_t e.hid h)
  have d' := d.mono (same_sh fD e)
  refine ⟨fun i hi => ⟨?_, fun x H3 y => ?_⟩, xs, h', by rw [d.len]; exact Nat.le_refl _⟩
  · have hx : i < xs.length := by rw [d.len]; exact hi
    exact ⟨xs, xs[i], h', List.getElem?_eq_getElem hx⟩
  · obtain ⟨T, z, rfl, hT, rfl, hz⟩ := y
    exact pr_new w hT (hz xs h') d'
theorem qiv_en {e : Expr} {elts : List Expr} {kk : Nat} {tpos p pos : Pos} {da : DE} (ha : QE X E e da) (hm : X.mg "enumerate" = none) (hg : Gl X "enumerate" := by rfl) (he0 : starEach [e] X.env = (false, eval e X.env) :: starEach [] X.env := by rfl) (hs : starEach [e] X.env = [(false, eval e X.env)] := by rfl) : QIV X E (.Tuple elts kk tpos) (.Call (.Name "enumerate" p) [e] [] pos) (iEnD da) := by
  obtain ⟨ta, a1, a2⟩ := ha.ex
  refine ⟨_, pi_et hg hm (pa_cons a1 pa_nil he0) hs, fun as σ H ρ cs Ed Qd R w ev ek h k => a2 as σ H ρ cs Ed _ _ w ev ek h fun v H1 x cs1 e1 w1 d1 h1 => ?_⟩
  cases d1 with
  | lst g1 g2 => exact ⟨_, _, rfl, .inl ⟨SqL.of (hid1 g1), k _ H1 _ _ cs1 e1 w1 (itv_l g1 g2) h1⟩⟩
  | tup g1 g2 => exact ⟨_, _, rfl, .inr ⟨hidT g1, k _ H1 _ _ cs1 e1 w1 (itv_t g1 g2) h1⟩⟩
  | _ => exact h1.elim
/-! ### zip of two tuples, of two lists -/
def prZ (as bs : List PyData) (i : Nat) : PyData := .tuple [nth as i, nth bs i]
theorem pz_new {as : List CA} {H : Hp} {cs : CS} {T : Addr} {i : Nat} {y z : V} {ys zs : List V} {ds es : List PyData} (w : Wk K H as cs) (hT : H T = none) (hy : ys[i]? = some y) (q : DqAll K (hid H as) ys ds) (hz : zs[i]? = some z) (r : DqAll K (hid H as) zs es) :
    Ext as H (upd H T (.tup [y, z])) ∧ Wk K (upd H T (.tup [y, z])) as cs ∧ Dq K (hid (upd H T (.tup [y, z])) as) (.ref T) (prZ ds es i) := by
  obtain ⟨dy, k1, k2⟩ := q.get' hy
  obtain ⟨dz, k3, k4⟩ := r.get' hz
  have e1 : nth ds i = dy := by unfold nth; rw [List.getD_eq_getElem?_getD, k1]; rfl
  have e2 : nth es i = dz := by unfold nth; rw [List.getD_eq_getElem?_getD, k3]; rfl
  refine ⟨Ext.of (Same.new hT), w.grow (Same.new hT), .tup (SqT.of (hid_new (w.fresh hT))) (.cons ?_ (.cons ?_ .nil))⟩
  · rw [e1]; exact k2.mono (new_mono hT)
  · rw [e2]; exact k4.mono (new_mono hT)
theorem itv_zl {as : List CA} {H : Hp} {a b : Addr} {xs ys : List V} {ds es : List PyData} (h1 : hid H as a = some (.lst xs)) (d1 : DqAll K (hid H as) xs ds) (h2 : hid H as b = some (.lst ys)) (d2 : DqAll K (hid H as) ys es) : ItV K as H (Itz K a b) (min ds.length es.length) (prZ ds es) := fun ex H' cs' fD e w => by
  have g1 : SqL K H' a xs := SqL.of (hid1 (e.hid _ _ h1))
  have g2 : SqL K H' b ys := SqL.of (hid1 (e.hid _ _ h2))
  have d1' := d1.mono (same_sh fD e)
  have d2' := d2.mono (same_sh fD e)
  have l1 := d1.len
  have l2 := d2.len
  refine ⟨fun i hi => ⟨?_, fun x H3 y => ?_⟩, xs, ys, g1, g2, by omega⟩
  · have hx : i < xs.length := by omega
    have hy : i < ys.length := by omega
    exact ⟨xs, ys, xs[i], ys[i], g1, g2, List.getElem?_eq_getElem hx, List.getElem?_eq_getElem hy⟩
  · obtain ⟨T, y, z, rfl, hT, rfl, hy, hz⟩ := y
    exact pz_new w hT (hy xs g1) d1' (hz ys g2) d2'
theorem itv_zt {as : List CA} {H : Hp} {a b : Addr} {xs ys : List V} {ds es : List PyData} (h1 : SqT K (hid H as) a xs) (d1 : DqAll K (hid H as) xs ds) (h2 : SqT K (hid H as) b ys) (d2 : DqAll K (hid H as) ys es) : ItV K as H (RZ.ItzT K a b) (min ds.length es.length) (prZ ds es) := fun ex H' cs' fD e w => by
  have g1 : SqT K H' a xs := hidT (same_t e.hid h1)
  have g2 : SqT K H' b ys := hidT (same_t e.hid h2)
  have d1' := d1.mono (same_sh fD e)
  have d2' := d2.mono (same_sh fD e)
  have l1 := d1.len
  have l2 := d2.len
  refine ⟨fun i hi => ⟨?_, fun x H3 y => ?_⟩, xs, ys, g1, g2, by omega⟩
  · have hx : i < xs.length := by omega
    have hy : i < ys.length := by omega
    exact ⟨xs, ys, xs[i], ys[i], g1, g2, List.getElem?_eq_getElem hx, List.getElem?_eq_getElem hy⟩
  · obtain ⟨T, y, z, rfl, hT, rfl, hy, hz⟩ := y
    exact pz_new w hT (hy xs g1) d1' (hz ys g2) d2'
def iZipD (da db : DE) : DI := fun ρ cs Ed Q => da ρ cs Ed fun x cs1 => db ρ cs1 Ed fun y cs2 => match x, y with
  | .tuple ds, .tuple es => Q (min ds.length es.length) (prZ ds es) cs2
  | .list ds, .list es => Q (min ds.length es.length) (prZ ds es) cs2
  | _, _ => False
theorem qiv_zip {e e2 : Expr} {elts : List Expr} {kk : Nat} {tpos p pos : Pos} {da db : DE} (ha : QE X E e da) (hb : QE X E e2 db) (hm : X.mg "zip" = none) (hg : Gl X "zip" := by rfl) (he1 : starEach [e, e2] X.env = (false, eval e X.env) :: starEach [e2] X.env := by rfl) (he0 : starEach [e2] X.env = (false, eval e2 X.env) :: starEach [] X.env := by rfl)
    (hpl : (backTo pos (starEach [e2] X.env)).any (·.1) = false := by rfl) : QIV X E (.Tuple elts kk tpos) (.Call (.Name "zip" p) [e, e2] [] pos) (iZipD da db) := by
  obtain ⟨ta, a1, a2⟩ := ha.ex
  obtain ⟨tb, b1, b2⟩ := hb.ex
  refine ⟨_, RZ.pi_zipA hg hm (pa_cons a1 (pa_cons b1 pa_nil he0) he1) he1 hpl, fun as σ H ρ cs Ed Qd R w ev ek h k => a2 as σ H ρ cs Ed _ _ w ev ek h fun v H1 x cs1 e1 w1 d1 h1 => b2 as σ H1 ρ cs1 Ed _ _ w1 (ev.ext e1) (ek.ext e1) h1 fun u H2 y cs2 e2 w2 d2 h2 => ?_⟩
  have d1' := d1.mono e2.hid
  cases d1' with
  | lst g1 g2 =>
    cases d2 with
    | lst g3 g4 => exact ⟨_, _, _, _, rfl, .inl ⟨SqL.of (hid1 g1), SqL.of (hid1 g3), k _ H2 _ _ cs2 (e1.trans e2) w2 (itv_zl g1 g2 g3 g4) h2⟩⟩
    | _ => exact h2.elim
  | tup g1 g2 =>
    cases d2 with
    | tup g3 g4 => exact ⟨_, _, _, _, rfl, .inr ⟨hidT g1, hidT g3, k _ H2 _ _ cs2 (e1.trans e2) w2 (itv_zt g1 g2 g3 g4) h2⟩⟩
    | _ => exact h2.elim
  | _ => exact h2.elim
/-! ### for over such a walk -/
theorem q_forV {tg it : Expr} {body : List Stmt} {pos : Pos} {di : DI} {p : Put} {db : DS} (hp : PassesOwn (model X.prog X.w) X.A X.env X.xe) (hc : X.calm = true) (hi : QIV X E tg it di) (hg : QG X tg p) (hb : QSs X E body db)
    (hs2 : ∀ x, foldedSetIterable it X.env x = pure x := by intro _; rfl) : QS X E (.For tg it body [] pos) (dFor di p db) := by
  obtain ⟨wi, i1, i2⟩ := hi.ex
  obtain ⟨tgt, g1, g2⟩ := hg.ex
  obtain ⟨tb, b1, b2⟩ := hb.ex
  refine ⟨_, ps_for hp hc i1 g1 b1 hs2, fun as σ H ρ cs D Dd w ev ek h S => i2 as σ H ρ cs Dd.ex _ _ w ev ek h fun J H1 n item cs1 e1 w1 it h1 => ?_⟩
  obtain ⟨Inv, h0, hs, hd⟩ := h1
  refine ⟨fun t m σ' H' => m = n - t ∧ t ≤ n ∧ ∃ ρ' cs', Ext as H1 H' ∧ Wk X.K H' as cs' ∧ Ev X.K H' as σ' ρ' ∧ Inv t ρ' cs', ⟨n, by simp, Nat.zero_le _, ρ, cs1, Ext.refl, w1, ev.ext e1, h0⟩, ?_⟩
  rintro t m σ2 H2 ⟨rfl, ht, ρ2, cs2, e2, w2, ev2, i2⟩
  obtain ⟨z1, z2⟩ := it [] H2 cs2 Nw.nil e2 w2
  by_cases hlt : t < n
  · obtain ⟨z3, z4⟩ := z1 t hlt
    refine .inr ⟨z3, fun σ' H' => ∃ ρ' cs', Ext as H1 H' ∧ Wk X.K H' as cs' ∧ Ev X.K H' as σ' ρ' ∧ Inv (t + 1) ρ' cs', fun σ' H' q => ⟨n - (t + 1), by omega, rfl, hlt, q⟩, fun x H3 y => ?_⟩
    obtain ⟨e3, w3, dx⟩ := z4 x H3 y
    have e3' : Ext as H2 H3 := e3
    have w3' : Wk X.K H3 as cs2 := w3
    have x3 := e2.trans e3'
    obtain ⟨ρ3, p1, p2⟩ := hs t ρ2 cs2 hlt i2
    refine g2 as σ2 H3 ρ2 ρ3 x _ _ (ev2.ext e3') dx p1 fun σ3 ev3 => ?_
    refine b2 as σ3 H3 ρ3 cs2 _ { Dd with nx := fun k ρ' cs' => Inv (t + 1) (ρ'.map (disSl k cs')) (cs'.drop k), ct := fun k ρ' cs' => Inv (t + 1) (ρ'.map (disSl k cs')) (cs'.drop k), bk := Dd.nx } w3' ev3 ((ek.ext e1).ext x3) p2 ?_
    have S1 := (S.ext w1 e1).ext w3' x3
    exact ⟨fun ex σ4 H4 ρ4 cs4 hf e4 w4 ev4 q => ⟨_, _, x3.trans e4, w4.drop, ev4.diss w4, q⟩, S1.nx, fun ex σ4 H4 ρ4 cs4 hf e4 w4 ev4 q => ⟨_, _, x3.trans e4, w4.drop, ev4.diss w4, q⟩, S1.rt, S1.rf⟩
  · have e : t = n := by omega
    subst e
    exact .inl ⟨z2, S.nx [] σ2 H2 ρ2 cs2 Nw.nil (e1.trans e2) w2 ev2 (hd ρ2 cs2 i2)⟩
/-! ### [.. for a, b in such a walk] -/
theorem siw_of {wi : TI} {d : DI} (h : SIV K E wi d) : SIW K E wi d := fun as σ H ρ cs Ed Qd R w ev ek hd k => h as σ H ρ cs Ed Qd R w ev ek hd fun J H' n item cs' e1 w1 it q => k J H' n item cs' e1 w1 (fun D H2 cs2 hD e w2 => it [cl D] H2 cs2 (Nw.lst hD) e w2) q
theorem q_lcV {elt tg it : Expr} {scope : Scope} {pos : Pos} {di : DI} {de : DE} {own : List (Str × Nat)} (hc : X.calm = true) (hN : X.N.Nodup) (hi : QIV X E tg it di) (ok : BlkOk X.N X.env.scope scope own)
    (hg : ∀ (s : Shared) (H : Hp) (C : Addr) (cl : List (Str × Addr)) (fp : List Addr), PG (X.blk s H scope (compEnvC scope cl C X.env) fp) tg (gTup X.K (own.map (·.2)).length (gNames (own.map (·.2)))))
    (he : ∀ (s : Shared) (H : Hp) (C : Addr) (cl : List (Str × Addr)) (fp : List Addr), QE (X.blk s H scope (compEnvC scope cl C X.env) fp) E0 elt de)
    (hs : ∀ x, foldedSetIterable it X.env x = pure x := by intro _; rfl) : QN X E (.ListComp elt [⟨tg, it, [], 0⟩] scope pos) (dLcT di (own.map (·.2)) dYes de) := by
  obtain ⟨wi, i1, i2⟩ := hi.ex
  exact ⟨_, pe_lc (own := own) (g := gTup X.K (own.map (·.2)).length (gNames (own.map (·.2)))) (tt := tYes) (te := tOfE X.K E0 de) hc hN i1 ok hg (fun _ _ _ _ _ => pts_nil) (fun s H C cl fp => (he s H C cl fp).can) hs, lc_coreW (siw_of i2) st_yes' se_can⟩
theorem q_lcVif {elt tg it c : Expr} {scope : Scope} {pos : Pos} {di : DI} {dt : DT} {de : DE} {own : List (Str × Nat)} (hc : X.calm = true) (hN : X.N.Nodup) (hi : QIV X E tg it di) (ok : BlkOk X.N X.env.scope scope own)
    (hg : ∀ (s : Shared) (H : Hp) (C : Addr) (cl : List (Str × Addr)) (fp : List Addr), PG (X.blk s H scope (compEnvC scope cl C X.env) fp) tg (gTup X.K (own.map (·.2)).length (gNames (own.map (·.2)))))
    (ht : ∀ (s : Shared) (H : Hp) (C : Addr) (cl : List (Str × Addr)) (fp : List Addr), QT (X.blk s H scope (compEnvC scope cl C X.env) fp) E0 c dt)
    (he : ∀ (s : Shared) (H : Hp) (C : Addr) (cl : List (Str × Addr)) (fp : List Addr), QE (X.blk s H scope (compEnvC scope cl C X.env) fp) E0 elt de)
    (hs : ∀ x, foldedSetIterable it X.env x = pure x := by intro _; rfl) : QN X E (.ListComp elt [⟨tg, it, [c], 0⟩] scope pos) (dLcT di (own.map (·.2)) dt de) := by
  obtain ⟨wi, i1, i2⟩ := hi.ex
  exact ⟨_, pe_lc (own := own) (g := gTup X.K (own.map (·.2)).length (gNames (own.map (·.2)))) (tt := tOfT X.K E0 dt) (te := tOfE X.K E0 de) hc hN i1 ok hg (fun s H C cl fp => pts_one (ht s H C cl fp).can) (fun s H C cl fp => (he s H C cl fp).can) hs, lc_coreW (siw_of i2) st_can se_can⟩
/-! ### a def with one keyword-only number that has a default -/
structure CalKi (P : Program) (w : World) (K : Frag) (mg : Str → Option Value) (base : Heap) (k : Nat) (name : Str) (ps : List Str) (n : Nat) (kw : Str) (b : Int) (f : FD) : Prop where
  ex : ∃ (a : Addr) (fd : FuncData) (ds : List Value), mg name = some (.ref a) ∧ PySem.W.keepIn K (.ref a) = true ∧ FnOk P w K mg base (L2.CX P w) k a fd ps (spD K f) ∧ Vals [V.int b] ds ∧ Binds K fd ps ds ∧ KBn K fd ps n [kw] (fun us ws => us ++ ws) (fun vs zs => vs ++ zs)
def dCallDi (f : FD) (b : Int) (da : DA) : DE := fun ρ cs Ed Q => da ρ cs Ed fun ss cs1 => f (ss ++ [.d (.int b)]) cs1 Ed Q
theorem ar_int {H : Hp} {as : List CA} (b : Int) : Ar K H as [V.int b] [.d (.int b)] := .cons ⟨⟨_, rfl, .int b⟩, fun z => by cases z⟩ .nil
theorem q_callDi {k n : Nat} {name kw : Str} {ps : List Str} {b : Int} {f : FD} {e : Expr} {es : List Expr} {p pos : Pos} {da : DA} (F : CalKi X.prog X.w X.K X.mg X.base k name ps n kw b f) (hr : Room k X.A) (hx : Passes (L2.CX X.prog X.w) X E) (ha : QA X E (e :: es) da)
    (hg : Gl X name := by rfl) (hdb : (name == ("__debug__" : Str)) = false := by decide) (he : starEach (e :: es) X.env = (false, eval e X.env) :: starEach es X.env := by rfl) (hpl : (backTo pos (starEach es X.env)).any (·.1) = false := by rfl) :
    QE X E (.Call (.Name name p) (e :: es) [] pos) (dCallDi f b da) := by
  obtain ⟨a, fd, ds, h1, h2, h3, h4, h5, h6⟩ := F.ex
  obtain ⟨ta, a1, a2⟩ := ha.ex
  refine ⟨_, pe_call h3 hr hg h1 h2 h5 h4 hx a1 hdb he hpl, fun as σ H ρ cs Ed Qd Q w e ek h k => a2 as σ H ρ cs Ed _ _ w e ek h fun vs H1 ss cs1 e1 w1 d1 q1 => ?_⟩
  exact ⟨as, ss ++ [.d (.int b)], cs1, Ed, Qd, w1, ar_app d1 (ar_int b), ek.ext e1, q1, fun v H' x cs' e2 w2 d2 q2 => k v H' x cs' (e1.trans e2) w2 d2 q2⟩
def dCallKi (n : Nat) (f : FD) (da : DA) (dv : DE) : DE := fun ρ cs Ed Q => da ρ cs Ed fun ss cs1 => dv ρ cs1 Ed fun x cs2 => ss.length = n ∧ f (ss ++ [.d x]) cs2 Ed Q
theorem q_callKi {k n : Nat} {name kw : Str} {ps : List Str} {b : Int} {f : FD} {e v : Expr} {es : List Expr} {p pos kpos : Pos} {da : DA} {dv : DE} (hv : QE X E v dv) (F : CalKi X.prog X.w X.K X.mg X.base k name ps n kw b f) (hr : Room k X.A) (hx : Passes (L2.CX X.prog X.w) X E) (ha : QA X E (e :: es) da)
    (hg : Gl X name := by rfl) (hdb : (name == ("__debug__" : Str)) = false := by decide) (he : starEach (e :: es) X.env = (false, eval e X.env) :: starEach es X.env := by rfl)
    (hall : (backToKw pos (keywordEach [⟨some kw, v, kpos⟩] X.env)).all (·.1.isSome) = true := by rfl) (hks : (backToKw pos (keywordEach [⟨some kw, v, kpos⟩] X.env)).filterMap (·.1) = [kw] := by rfl)
    (hpl : ((backTo pos (starEach (e :: es) X.env)).any (·.1) || (backToKw pos (keywordEach [⟨some kw, v, kpos⟩] X.env)).any (·.1.isNone)) = false := by rfl) :
    QE X E (.Call (.Name name p) (e :: es) [⟨some kw, v, kpos⟩] pos) (dCallKi n f da dv) := by
  obtain ⟨a, fd, ds, h1, h2, h3, h4, h5, h6⟩ := F.ex
  obtain ⟨ta, a1, a2⟩ := ha.ex
  obtain ⟨tv, b1, b2⟩ := hv.ex
  refine ⟨_, pe_callN h3 hr hg h1 h2 h6 hx a1 (pk_cons b1 pk_nil) hall hks hdb he hpl, fun as σ H ρ cs Ed Qd Q w ev ek h k => a2 as σ H ρ cs Ed _ _ w ev ek h fun vs H1 ss cs1 e1 w1 d1 q1 => b2 as σ H1 ρ cs1 Ed _ _ w1 (ev.ext e1) (ek.ext e1) q1 fun u H2 x cs2 e2 w2 d2 q2 => ?_⟩
  obtain ⟨hl, hf⟩ := q2
  refine ⟨(pr_len d1).trans hl, rfl, ?_⟩
  exact ⟨as, ss ++ [.d x], cs2, Ed, Qd, w2, ar_app (d1.ext e2) (.cons (show SlOk X.K H2 as (some u) (.d x) ∧ Sl.d x ≠ .no from ⟨⟨u, rfl, d2⟩, fun z => by cases z⟩) .nil), (ek.ext e1).ext e2, hf, fun v' H' x' cs' e3 w3 d3 q3 => k v' H' x' cs' ((e1.trans e2).trans e3) w3 d3 q3⟩
end
section
variable {P : Program} {w : World} {K : Frag} {mg : Str → Option Value} {base : Heap} {name qual kw : Str} {params : Arguments} {body : List Stmt} {scope : Scope} {a : Addr} {fd : FuncData} {ps : List Str} {b : Int} {k n : Nat} {f : FD}
theorem kb_allI (F : FunD K name qual params body scope [] [(kw, .int b)] a fd) (n : Nat)
    (h : ∀ (kV doc pm : Value) (an : Option Addr) (cdv ct : Value) (us ws : List Value), us.length = n → ws.length = 1 → bindArgs (PySem.W.fnOf name qual params body scope .none kV doc pm an cdv ct) ⟨us, [kw].zip ws⟩ = pure (ps.zip (us ++ ws))) : KBn K fd ps n [kw] (fun us ws => us ++ ws) (fun vs zs => vs ++ zs) := by
  obtain ⟨oc, od, dV, kV, doc, pm, an, cdv, ct, osl, rfl, lk, hcd, hD, hK⟩ := F.ex
  rcases hD with ⟨_, rfl⟩ | ⟨e, _⟩
  · exact ⟨fun s us ws _ l1 l2 => .of_eq (h kV doc pm an cdv ct us ws l1 l2), fun r1 r2 => r1.append r2⟩
  · exact absurd rfl e
theorem calKi_of (F : FunD K name qual params body scope [] [(kw, .int b)] a fd) (hm : mg name = some (.ref a)) (hf : FnOk P w K mg base (L2.CX P w) k a fd ps (spD K f)) (h0 : ∃ ds, Vals [V.int b] ds ∧ Binds K fd ps ds) (hk : KBn K fd ps n [kw] (fun us ws => us ++ ws) (fun vs zs => vs ++ zs)) : CalKi P w K mg base k name ps n kw b f := by
  obtain ⟨ds, h1, h2⟩ := h0
  exact ⟨a, fd, ds, hm, F.kp, hf, h1, h2, hk⟩
end
end Kp

namespace Kp
open PySem PySem.Spec PyProof.Rows L2
section
variable {K : Frag} {E : XK} {X : Cx}
/-! ### several at once, new lists among them -/
abbrev DAn := List Sl → CS → XD → (Nat → List Sl → CS → Prop) → Prop
def SAn (K : Frag) (E : XK) (t : TA) (d : DAn) : Prop := ∀ (as : List CA) (σ : L2.St) (H : Hp) (ρ : List Sl) (cs : CS) (Ed : XD) (Qd : Nat → List Sl → CS → Prop) (Q : List V → Hp → Prop),
  Wk K H as cs → Ev K H as σ ρ → EK K E Ed as H → d ρ cs Ed Qd → (∀ vs H' ex ss cs', Nw H H' ex → Ext as H H' → Wk K H' (ex ++ as) cs' → Ar K H' (ex ++ as) vs ss → Qd ex.length ss cs' → Q vs H') → t σ H Q
structure QAn (X : Cx) (E : XK) (es : List Expr) (d : DAn) : Prop where
  ex : ∃ t, PA X es t ∧ SAn X.K E t d
def dnNil : DAn := fun _ cs _ Q => Q 0 [] cs
def dnD (da : DE) (dr : DAn) : DAn := fun ρ cs Ed Q => da ρ cs Ed fun x cs1 => dr ρ cs1 Ed fun k ss cs2 => Q k (.d x :: ss) cs2
def dnN (dl : DL) (dr : DAn) : DAn := fun ρ cs Ed Q => dl ρ cs Ed fun ds cs1 => dr (ρ.map (shSl 1)) (ds :: cs1) (fun C cs => Ed C (cs.drop 1)) fun k ss cs2 => Q (k + 1) (.c k :: ss) cs2
theorem qn_nil : QAn X E [] dnNil := ⟨_, pa_nil, fun as σ H ρ cs Ed Qd Q w e ek h k => k [] H [] [] cs Nw.nil Ext.refl w .nil h⟩
theorem qn_d {e : Expr} {es : List Expr} {da : DE} {dr : DAn} (ha : QE X E e da) (hr : QAn X E es dr) (hs : starEach (e :: es) X.env = (false, eval e X.env) :: starEach es X.env := by rfl) : QAn X E (e :: es) (dnD da dr) := by
  obtain ⟨ta, a1, a2⟩ := ha.ex
  obtain ⟨tr, b1, b2⟩ := hr.ex
  refine ⟨_, pa_cons a1 b1 hs, fun as σ H ρ cs Ed Qd Q w e ek h k => a2 as σ H ρ cs Ed _ _ w e ek h fun v H1 x cs1 e1 w1 d1 h1 => b2 as σ H1 ρ cs1 Ed _ _ w1 (e.ext e1) (ek.ext e1) h1 fun vs H2 ex ss cs2 nw e2 w2 d2 h2 => ?_⟩
  exact k _ H2 ex _ cs2 (nw.back e1) (e1.trans e2) w2 (.cons ⟨(show SlOk X.K H2 (ex ++ as) (some v) (.d x) from ⟨v, rfl, d1.mono (hid_sh nw e2)⟩), fun z => by cases z⟩ d2) h2
theorem qn_n {e : Expr} {es : List Expr} {dl : DL} {dr : DAn} (ha : QN X E e dl) (hr : QAn X E es dr) (hs : starEach (e :: es) X.env = (false, eval e X.env) :: starEach es X.env := by rfl) : QAn X E (e :: es) (dnN dl dr) := by
  obtain ⟨ta, a1, a2⟩ := ha.ex
  obtain ⟨tr, b1, b2⟩ := hr.ex
  refine ⟨_, pa_cons a1 b1 hs, fun as σ H ρ cs Ed Qd Q w ev ek h k => a2 as σ H ρ cs Ed _ _ w ev ek h fun p H1 ds cs1 e1 hp w1 h1 => ?_⟩
  have nw1 : ∀ {H' : Hp}, Nw H H' [cl p] := Nw.lst hp
  have ek1 : EK X.K E (fun C cs => Ed C (cs.drop 1)) (cl p :: as) H1 := fun C H2 cs2 e2 w2 q => ek C H2 (cs2.drop 1) (Ext.cut (ex := [cl p]) nw1 e1 e2) (Wk.drop (ex := [cl p]) w2) q
  refine b2 (cl p :: as) σ H1 _ _ _ _ _ w1 (Ev.sh nw1 ev e1) ek1 h1 fun vs H2 ex ss cs2 nw e2 w2 d2 h2 => ?_
  have ea : (ex ++ [cl p]) ++ as = ex ++ (cl p :: as) := by rw [List.append_assoc]; rfl
  refine k _ H2 (ex ++ [cl p]) (.c ex.length :: ss) cs2 (Nw.app (nw.back e1) nw1) (Ext.cut (ex := [cl p]) nw1 e1 e2) (by rw [ea]; exact w2) (by
    rw [ea]
    refine .cons ⟨⟨p, ?_, rfl⟩, fun z => by cases z⟩ d2
    rw [List.getElem?_append_right (Nat.le_refl _), Nat.sub_self]; rfl) ?_
  rw [List.length_append]
  exact h2
def setSl : List Nat → List Sl → List Sl → Option (List Sl)
  | [], [], ρ => some ρ
  | i :: is, s :: ss, ρ => setSl is ss (ρ.set i s)
  | _, _, _ => none
theorem names_okS {as : List CA} {H : Hp} {Q : L2.St → Hp → Prop} : ∀ {is : List Nat} {vs : List V} {ss : List Sl} {σ : L2.St} {ρ ρ' : List Sl}, Ev K H as σ ρ → Ar K H as vs ss → setSl is ss ρ = some ρ' → (∀ σ', Ev K H as σ' ρ' → Q σ' H) → gNames is vs σ H Q
  | [], _, _, σ, ρ, ρ', ev, .nil, h, k => by
    cases (show some ρ = some ρ' from h)
    exact ⟨rfl, k σ ev⟩
  | i :: is, _, _, σ, ρ, ρ', ev, .cons r t, h, k => ⟨_, _, rfl, names_okS (is := is) (ev_set ev i r.1) t h k⟩
  | [], _, _, _, _, _, _, .cons _ _, h, _ => by cases h
  | _ :: _, _, _, _, _, _, _, .nil, h, _ => by cases h
theorem setSl_len : ∀ {is : List Nat} {ss ρ ρ' : List Sl}, setSl is ss ρ = some ρ' → ss.length = is.length
  | [], [], _, _, _ => rfl
  | _ :: is, _ :: ss, ρ, ρ', h => by rw [List.length_cons, List.length_cons, setSl_len (is := is) h]
  | [], _ :: _, _, _, h => by cases h
  | _ :: _, [], _, _, h => by cases h
def dUnpN (is : List Nat) (d : DAn) : DS := fun Dd ρ cs => d ρ cs Dd.ex fun k ss cs1 => ∃ ρ', setSl is ss (ρ.map (shSl k)) = some ρ' ∧ Dd.nx k ρ' cs1
theorem q_unpM {is : List Nat} {es vs : List Expr} {pos p2 : Pos} {k k2 : Nat} {pt2 : Pos} {d : DAn} (hc : X.calm = true) (hg : PGs X es (gNames is)) (ha : QAn X E vs d) (hsm : is.length ≤ 100 := by decide)
    (hn : (assignEach es X.env).length = is.length := by rfl) (hst : (assignEach es X.env).findIdx? (·.1) = none := by rfl)
    (hs : swapsWithSole [.Tuple es k p2] (.Tuple vs k2 pt2) pos.line X.env = pure false := by rfl) (hw : swappedStores [.Tuple es k p2] (.Tuple vs k2 pt2) X.env = pure none := by rfl)
    (h1 : (assignEach [.Tuple es k p2] X.env).map (·.2) = [assign (.Tuple es k p2) X.env] := by rfl) :
    QS X E (.Assign [.Tuple es k p2] (.Tuple vs k2 pt2) pos) (dUnpN is d) := by
  obtain ⟨ta, a1, a2⟩ := ha.ex
  refine ⟨_, ps_asg (pe_tup a1) (pg_tup hc hg hn hst) hs hw h1, fun as σ H ρ cs D Dd w ev ek h S => a2 as σ H ρ cs Dd.ex _ _ w ev ek h fun vs H2 ex ss cs2 nw e2 w2 d2 h2 => ?_⟩
  obtain ⟨ρ', q1, q2⟩ := h2
  have hl : vs.length = is.length := by rw [pr_len d2]; exact setSl_len q1
  refine ⟨(by rw [hl, sizeLine_eq]; omega), fun q hq => ?_⟩
  have e3 : Ext (ex ++ as) H2 (upd H2 q (.tup vs)) := Ext.of (Same.new hq)
  have nw3 : Nw H (upd H2 q (.tup vs)) ex := nw.go (as := as) e3 (Ext.dm e2)
  have e4 := e2.trans (Ext.of (as := as) (Same.new (o := .tup vs) hq))
  refine ⟨_, _, rfl, SqT.of upd_same, hl, names_okS (Ev.sh nw3 ev e4) (d2.ext e3) q1 fun σ' ev' => S.nx ex σ' _ ρ' cs2 nw3 e4 (w2.grow (Same.new hq)) ev' q2⟩
theorem q_parM {i j : Nat} {x y : Str} {a b : Expr} {px py pt pos : Pos} {kt k2 : Nat} {pt2 : Pos} {d : DAn} (hc : X.calm = true) (hN : X.N.Nodup) (ha : QAn X E [a, b] d) (hi : X.N[i]? = some x := by rfl) (hj : X.N[j]? = some y := by rfl) (hij : i ≠ j := by decide)
    (hx : X.env.scope.names.lookup x = some .local := by rfl) (hy : X.env.scope.names.lookup y = some .local := by rfl)
    (hw : swappedStores [.Tuple [.Name x px, .Name y py] kt pt] (.Tuple [a, b] k2 pt2) X.env = pure (some [x, y]) := by rfl)
    (hs : swapsWithSole [.Tuple [.Name x px, .Name y py] kt pt] (.Tuple [a, b] k2 pt2) pos.line X.env = pure false := by rfl) :
    QS X E (.Assign [.Tuple [.Name x px, .Name y py] kt pt] (.Tuple [a, b] k2 pt2) pos) (dUnpN [i, j] d) := by
  obtain ⟨ta, a1, a2⟩ := ha.ex
  refine ⟨_, ps_par hc hN hi hj hij hx hy a1 hw hs, fun as σ H ρ cs D Dd w ev ek h S => a2 as σ H ρ cs Dd.ex _ _ w ev ek h fun vs H2 ex ss cs2 nw e2 w2 d2 h2 => ?_⟩
  obtain ⟨ρ', q1, q2⟩ := h2
  match ss, vs, d2, q1 with
  | [], _, _, q1 => cases q1
  | [_], _, _, q1 => cases q1
  | _ :: _ :: _ :: _, _, _, q1 => cases q1
  | [_, _], _, .cons z1 (.cons z2 .nil), q1 =>
    cases (show some _ = some ρ' from q1)
    exact ⟨_, _, rfl, S.nx ex _ H2 _ cs2 nw e2 w2 (ev_set (ev_set (Ev.sh nw ev e2) i z1.1) j z2.1) q2⟩
end
end Kp

namespace Kp
open PySem PySem.Spec PyProof.Rows L2
theorem na_nil {P : Str → Prop} : ∀ n ∈ ([] : List (Str × Bool)), P n.1 := fun _ h => nomatch h
theorem na_cons {P : Str → Prop} {n : Str × Bool} {ns : List (Str × Bool)} (h : P n.1) (t : ∀ x ∈ ns, P x.1) : ∀ x ∈ n :: ns, P x.1 := fun x hx => by
  rcases List.mem_cons.mp hx with z | z
  · rw [z]; exact h
  · exact t x z
section
variable {K : Frag} {E : XK} {X : Cx}
/-! ### while: Inv by a number that falls; what a turn made as cells is data behind it -/
def dWhile (dt : DT) (body : DS) : DS := fun Dd ρ cs => ∃ Inv : Nat → List Sl → CS → Prop, (∃ n, Inv n ρ cs) ∧ ∀ n ρ cs, Inv n ρ cs → dt ρ cs Dd.ex fun b cs1 => if b = true
  then body { Dd with nx := fun k ρ' cs' => ∃ m, m < n ∧ Inv m (ρ'.map (disSl k cs')) (cs'.drop k), ct := fun k ρ' cs' => ∃ m, m < n ∧ Inv m (ρ'.map (disSl k cs')) (cs'.drop k), bk := Dd.nx } ρ cs1
  else Dd.nx 0 ρ cs1
theorem q_while {c : Expr} {body : List Stmt} {pos : Pos} {dt : DT} {db : DS} (hp : PassesOwn (model X.prog X.w) X.A X.env X.xe) (hc : QT X E c dt) (hb : QSs X E body db) : QS X E (.While c body [] pos) (dWhile dt db) := by
  obtain ⟨tc, c1, c2⟩ := hc.ex
  obtain ⟨tb, b1, b2⟩ := hb.ex
  refine ⟨_, ps_while hp c1 b1, fun as σ H ρ cs D Dd w ev ek h S => ?_⟩
  obtain ⟨Inv, ⟨n0, h0⟩, hs⟩ := h
  refine ⟨fun m σ' H' => ∃ ρ' cs', Ext as H H' ∧ Wk X.K H' as cs' ∧ Ev X.K H' as σ' ρ' ∧ Inv m ρ' cs', ⟨n0, ρ, cs, Ext.refl, w, ev, h0⟩, ?_⟩
  rintro m σ1 H1 ⟨ρ1, cs1, e1, w1, ev1, i1⟩
  refine c2 as σ1 H1 ρ1 cs1 Dd.ex _ _ w1 ev1 (ek.ext e1) (hs m ρ1 cs1 i1) fun b H2 cs2 e2 w2 h2 => ?_
  have S2 := (S.ext w1 e1).ext w2 e2
  cases b with
  | true =>
    rw [if_pos rfl] at h2 ⊢
    refine ⟨fun σ' H' => ∃ m', m' < m ∧ ∃ ρ' cs', Ext as H H' ∧ Wk X.K H' as cs' ∧ Ev X.K H' as σ' ρ' ∧ Inv m' ρ' cs', fun σ' H' q => q, ?_⟩
    refine b2 as σ1 H2 ρ1 cs2 _ { Dd with nx := fun k ρ' cs' => ∃ m', m' < m ∧ Inv m' (ρ'.map (disSl k cs')) (cs'.drop k), ct := fun k ρ' cs' => ∃ m', m' < m ∧ Inv m' (ρ'.map (disSl k cs')) (cs'.drop k), bk := Dd.nx } w2 (ev1.ext e2) ((ek.ext e1).ext e2) h2 ?_
    exact ⟨fun ex σ4 H4 ρ4 cs4 hf e4 w4 ev4 q => q.elim fun m' q => ⟨m', q.1, _, _, (e1.trans e2).trans e4, w4.drop, ev4.diss w4, q.2⟩, S2.nx, fun ex σ4 H4 ρ4 cs4 hf e4 w4 ev4 q => q.elim fun m' q => ⟨m', q.1, _, _, (e1.trans e2).trans e4, w4.drop, ev4.diss w4, q.2⟩, S2.rt, S2.rf⟩
  | false =>
    rw [if_neg (by decide)] at h2 ⊢
    exact S2.nx [] σ1 H2 ρ1 cs2 Nw.nil Ext.refl w2 (ev1.ext e2) h2
/-! ### * of ints, of a tuple or a list and an int -/
abbrev rTimesA (K : Frag) : R2 := fun x y H Q => rTimesW K x y H Q ∨ rRep x y H Q
theorem op_timesA : OpR X (binaryOp .Mult) (rTimesA X.K) := OpR.or op_timesW op_rep
def dTimesA : R2D := fun x y Q => match x, y with
  | .list xs, .int n => (-(2 ^ 63) ≤ n ∧ n < 2 ^ 63 ∧ xs.length * n.toNat ≤ sizeLine) ∧ Q (.list (List.replicate n.toNat xs).flatten)
  | x, y => dTimesW x y Q
theorem sr_timesA : SR K (rTimesA K) dTimesA := fun as H cs v u x y Qd Q w hx hy h k => by
  cases hx with
  | lst g1 g2 =>
    cases hy with
    | int n =>
      obtain ⟨⟨h1, h2, h3⟩, h4⟩ := h
      exact .inr ⟨_, _, _, rfl, rfl, hid1 g1, h1, h2, by rw [g2.len]; exact h3, fun p hp => k _ _ _ (Same.new hp) (.lst (hid_new (w.fresh hp)) ((g2.flat _).mono (new_mono hp))) h4⟩
    | _ => exact h.elim
  | int i => exact .inl (sr_timesW as H cs _ _ _ _ Qd Q w (.int i) hy h k)
  | tup g1 g2 => exact .inl (sr_timesW as H cs _ _ _ _ Qd Q w (.tup g1 g2) hy h k)
  | _ => exact h.elim
end
end Kp

namespace Kp
open PySem PySem.Spec PyProof.Rows L2
section
variable {K : Frag} {E : XK} {X : Cx}
/-! ### o.f as one of several targets -/
def gFld (K : Frag) (ta : TE) (f : Str) : TG := fun v σ H Q => ta σ H fun x H1 => ∃ a C dx fs, x = .ref a ∧ H1 a = some (.ins C dx fs) ∧ L2.Cls K C ∧ L2.NoAttr K C f ∧ fs.length < 1000 ∧ Q σ (upd H1 a (.ins C dx (putF f v fs)))
theorem pg_att {o : Expr} {f : Str} {pos : Pos} {ta : TE} (ho : PE X o ta) : PG X (.Attribute o f pos) (gFld X.K ta f) := ⟨fun pins s σ H v u Q I r q => by
  show wpAny _ _ (do
    let ov ← holding [u] (eval o X.env)
    standAt pos.atName
    holding [u, ov] (setAttr ov f u)
    release [u, ov] []) _ _ _
  refine wpAny_bind (wpAny_holding (thn (ho.run pins s σ H _ I q) fun ov s1 q1 => ?_))
  obtain ⟨x, H1, I1, r1, a, C, dx, fs, rfl, h1, h2, h3, h4, h5⟩ := q1
  obtain rfl : ov = Value.ref a := r1
  exact wpAny_bind (wpAny_standAt (wpAny_bind (wpAny_holding (setattr_ok I1 h1 h2 h3 h4 r fun s2 I2 => wpAny_release ⟨σ, _, I2, h5⟩))))⟩
inductive Tg where
  | nm (i : Nat) | at_ (c : OC) (i m : Nat)
def setT : List Tg → List PyData → (List Sl → CS → Prop) → List Sl → CS → Prop
  | [], [], k, ρ, cs => k ρ cs
  | .nm i :: ts, x :: xs, k, ρ, cs => setT ts xs k (ρ.set i (.d x)) cs
  | .at_ c i m :: ts, x :: xs, k, ρ, cs => match ρ[i]? with
    | some (.o c' j) => c' = c ∧ ∃ ds, cs[j]? = some ds ∧ m ≤ ds.length ∧ setT ts xs k ρ (cs.set j (setF ds m x))
    | _ => False
  | _, _, _, _, _ => False
structure QTs (X : Cx) (es : List Expr) (ts : List Tg) : Prop where
  ex : ∃ g, PGs X es g ∧ ∀ (as : List CA) (σ : L2.St) (H : Hp) (ρ : List Sl) (cs : CS) (vs : List V) (xs : List PyData) (k : List Sl → CS → Prop) (Q : L2.St → Hp → Prop), Wk X.K H as cs → Ev X.K H as σ ρ → DqAll X.K (hid H as) vs xs → setT ts xs k ρ cs → (∀ σ' H' ρ' cs', Ext as H H' → Wk X.K H' as cs' → Ev X.K H' as σ' ρ' → k ρ' cs' → Q σ' H') → g vs σ H Q
theorem qt_nil : QTs X [] [] := ⟨_, pgs_nil, fun as σ H ρ cs vs xs k Q w ev d h kk => by
  cases d with
  | nil => exact ⟨rfl, kk σ H ρ cs Ext.refl w ev h⟩
  | cons _ _ => exact h.elim⟩
theorem qt_nm {e : Expr} {es : List Expr} {ts : List Tg} (i : Nat) (hg : PG X e (gName i)) (hr : QTs X es ts) (hm : (assignEach (e :: es) X.env).map (·.2) = assign e X.env :: (assignEach es X.env).map (·.2) := by rfl) : QTs X (e :: es) (.nm i :: ts) := by
  obtain ⟨g, a1, a2⟩ := hr.ex
  refine ⟨_, pgs_cons hg a1 hm, fun as σ H ρ cs vs xs k Q w ev d h kk => ?_⟩
  cases d with
  | nil => exact h.elim
  | cons r t => exact ⟨_, _, rfl, a2 as _ H _ cs _ _ k Q w (ev_set (s := .d _) ev i ⟨_, rfl, r⟩) t h kk⟩
theorem qt_at {o : Expr} {es : List Expr} {f : Str} {pos : Pos} {ts : List Tg} (c : OC) (i m : Nat) (hc : OCk X.K c) (ho : PE X o (tVar i)) (hr : QTs X es ts) (hx : fIx c.fs f = some m := by decide +kernel) (hw : ownAt c.fs m = false := by rfl) (hm : (assignEach (.Attribute o f pos :: es) X.env).map (·.2) = assign (.Attribute o f pos) X.env :: (assignEach es X.env).map (·.2) := by rfl) : QTs X (.Attribute o f pos :: es) (.at_ c i m :: ts) := by
  obtain ⟨g, a1, a2⟩ := hr.ex
  refine ⟨_, pgs_cons (pg_att ho) a1 hm, fun as σ H ρ cs vs xs k Q w ev d h kk => ?_⟩
  cases d with
  | nil => exact h.elim
  | cons r t =>
    have h' : (match ρ[i]? with
      | some (.o c' j) => c' = c ∧ ∃ ds, cs[j]? = some ds ∧ m ≤ ds.length ∧ setT ts _ k ρ (cs.set j (setF ds m _))
      | _ => False) := h
    cases q : ρ[i]? with
    | none => rw [q] at h'; exact h'.elim
    | some sl =>
      rw [q] at h'
      obtain ⟨o, hoo, hs⟩ := pr_get ev q
      cases sl with
      | o c' j =>
        obtain ⟨rfl, ds, h2, h3, h4⟩ := h'
        obtain ⟨a, g1, rfl⟩ := hs
        obtain ⟨dx, vs0, g2, g3⟩ := w.obj g1 h2
        obtain ⟨w2, e2⟩ := w.putD g1 g2 g3 hw (fIx_lt hx) h3 r
        have hz := hc.sz
        refine ⟨_, _, rfl, _, hoo, a, _, dx, _, rfl, g2, hc.cls, hc.no hx, by rw [fz_len g3.len.2]; have := g3.len.2; omega, ?_⟩
        rw [put_fz hx (by rw [g3.len.1]; exact h3)]
        exact a2 as σ _ ρ _ _ _ k Q w2 (ev.ext e2) (t.mono e2.hid) h4 fun σ' H' ρ' cs' e' w' ev' q' => kk σ' H' ρ' cs' (e2.trans e') w' ev' q'
      | _ => exact h'.elim
def dUnpT (ts : List Tg) (da : DE) : DS := fun Dd ρ cs => da ρ cs Dd.ex fun x cs1 => match x with
  | .tuple ds => ds.length = ts.length ∧ setT ts ds (Dd.nx 0) ρ cs1
  | _ => False
theorem q_unpT {es : List Expr} {k : Nat} {e : Expr} {pos p2 : Pos} {da : DE} {ts : List Tg} (hc : X.calm = true) (hg : QTs X es ts) (ha : QE X E e da)
    (hn : (assignEach es X.env).length = ts.length := by rfl) (hst : (assignEach es X.env).findIdx? (·.1) = none := by rfl)
    (hs : swapsWithSole [.Tuple es k p2] e pos.line X.env = pure false := by rfl) (hw : swappedStores [.Tuple es k p2] e X.env = pure none := by rfl)
    (h1 : (assignEach [.Tuple es k p2] X.env).map (·.2) = [assign (.Tuple es k p2) X.env] := by rfl) : QS X E (.Assign [.Tuple es k p2] e pos) (dUnpT ts da) := by
  obtain ⟨ta, a1, a2⟩ := ha.ex
  obtain ⟨g, g1, g2⟩ := hg.ex
  refine ⟨_, ps_asg a1 (pg_tup hc g1 hn hst) hs hw h1, fun as σ H ρ cs D Dd w ev ek h S => a2 as σ H ρ cs Dd.ex _ _ w ev ek h fun v H1 x cs1 e1 w1 d1 h1 => ?_⟩
  cases d1 with
  | tup q1 q2 =>
    obtain ⟨hl, h2⟩ := h1
    exact ⟨_, _, rfl, hidT q1, by rw [q2.len]; exact hl, g2 as σ H1 ρ cs1 _ _ (Dd.nx 0) _ w1 (ev.ext e1) q2 h2 fun σ' H' ρ' cs' e' w' ev' q' => S.nx [] σ' H' ρ' cs' Nw.nil (e1.trans e') w' ev' q'⟩
  | _ => exact h1.elim
/-! ### new lists: a list cut, [*e, ..] -/
def dNsl (da : DE) (dl dh : DO) : DL := fun ρ cs Ed Q => da ρ cs Ed fun x cs0 => dl ρ cs0 Ed fun lo cs1 => dh ρ cs1 Ed fun hi cs2 => match x with
  | .list ds => Q (cutD ds lo hi) cs2
  | _ => False
theorem q_nsl {a : Expr} {lo hi : Option Expr} {pos p2 : Pos} {da : DE} {dl dh : DO} (ha : QE X E a da) (hl : QO X E lo dl) (hh : QO X E hi dh) : QN X E (.Subscript a (.Slice lo hi none p2) pos) (dNsl da dl dh) := by
  obtain ⟨ta, c1, c2⟩ := ha.ex
  obtain ⟨tl, a1, a2⟩ := hl.ex
  obtain ⟨th, b1, b2⟩ := hh.ex
  refine ⟨_, pe_slice sl2 c1 a1 b1, fun as σ H ρ cs Ed Qd Q w e ek h k => c2 as σ H ρ cs Ed _ _ w e ek h fun v H0 x cs0 e0 w0 d0 h0 => a2 as σ H0 ρ cs0 Ed _ _ w0 (e.ext e0) (ek.ext e0) h0 fun lo H1 cs1 e1 w1 h1 => b2 as σ H1 ρ cs1 Ed _ _ w1 ((e.ext e0).ext e1) ((ek.ext e0).ext e1) h1 fun hi H2 cs2 e2 w2 h2 => ?_⟩
  have d0' := d0.mono (e1.trans e2).hid
  cases d0' with
  | lst g1 g2 => exact .inl ⟨_, _, rfl, SqL.of (hid1 g1), fun p hp => k p _ _ cs2 (((e0.trans e1).trans e2).trans (Ext.of (Same.new hp))) (((e0.trans e1).trans e2).dm p hp) (w2.newc hp ((g2.cut lo hi).mono (new_cons hp))) h2⟩
  | _ => exact h2.elim
def dNlstS (da : DE) (dr : DA) : DL := fun ρ cs Ed Q => da ρ cs Ed fun x cs1 => match x with
  | .list ds => dr ρ cs1 Ed fun ss cs2 => match allD ss with
    | some es => ds.length + es.length ≤ sizeLine ∧ Q (ds ++ es) cs2
    | none => False
  | _ => False
theorem q_nlstS {e : Expr} {es : List Expr} {p pos : Pos} {da : DE} {dr : DA} (ha : QE X E e da) (hr : QA X E es dr) (hs : starEach (.Starred e p :: es) X.env = (true, eval e X.env) :: starEach es X.env := by rfl) : QN X E (.List (.Starred e p :: es) pos) (dNlstS da dr) := by
  obtain ⟨ta, a1, a2⟩ := ha.ex
  obtain ⟨tr, b1, b2⟩ := hr.ex
  refine ⟨_, pe_lst (StX.pa_star a1 b1 hs), fun as σ H ρ cs Ed Qd Q w ev ek h k => a2 as σ H ρ cs Ed _ _ w ev ek h fun v H1 x cs1 e1 w1 d1 h1 => ?_⟩
  cases d1 <;> try exact h1.elim
  rename_i a xs ds g1 g2
  refine ⟨_, _, rfl, .inr (SqL.of (hid1 g1)), b2 as σ H1 ρ cs1 Ed _ _ w1 (ev.ext e1) (ek.ext e1) h1 fun vs H2 ss cs2 e2 w2 d2 h2 => ?_⟩
  cases q : allD ss with
  | none => rw [q] at h2; exact h2.elim
  | some es =>
    rw [q] at h2
    have d3 := allD_ok d2 q
    have d4 : DqAll X.K (hid H2 as) xs ds := g2.mono e2.hid
    refine ⟨by rw [List.length_append, d4.len, d3.len]; exact h2.1, fun p hp => ?_⟩
    exact k p _ _ cs2 ((e1.trans e2).trans (Ext.of (Same.new hp))) ((e1.trans e2).dm p hp) (w2.newc hp ((d4.app d3).mono (new_cons hp))) h2.2
end
end Kp

namespace Kp
open PySem PySem.Spec PyProof.Rows L2
/-! ### sorted of a tuple of ints -/
theorem sortedT_call {prog : Program} {w : World} {A : Around} {E : Value → Shared → Prop} {s : Shared} {l : Addr} {vs : List Value} {ns : List Int} {Q : Value → Shared → Prop} (ht : s.heap.IsTuple l vs.toArray) (hi : IntsAre vs ns) (hl : vs.length < 64)
  (h : ∀ (h1 h' : Heap) (p : Addr) (out : Array Value) (ns' : List Int) (e : Nat), (∀ b o, s.heap.get? b = some o → h1.get? b = some o) → (∀ b o, h1.get? b = some o → h'.get? b = some o) → h1.objs.size ≤ p → h'.get? p = some (seqObj "list" out e) → IntsAre out.toList ns' → ns'.Perm ns → ns'.Pairwise (· ≤ ·) → Q (.ref p) { s with heap := h' }) : wpAny (model prog w) A (call (.builtin "sorted") [.ref l]) Q E s := by
  refine call_builtin_at plain_sorted entry_sorted (args_sorted1 _) ?_
  have q : wpAny (model prog w) A.in1 (Builtin.sorted { pos := [Value.ref l] }) (fun fin s' => ∃ v, fin = Fin.done (Flow.ret v) ∧ Q v s') E s := by
    obtain ⟨⟨oc, od, odt, osl⟩, ho, hc, n, hd⟩ := id ht
    have hc' : oc = Value.type "tuple" := hc
    have hd' : odt = Data.seq vs.toArray n := hd
    subst hc' hd'
    refine wpAny_bind (wpAny_pure ?_)
    refine wpAny_bind (wpAny_collect_seq l (.inr rfl) ho rfl rfl (fun h1 k1 => ?_) (by rw [List.size_toArray]; exact le_line (by omega)))
    refine wpAny_bind (wpAny_newList ?_ (le_line (show vs.toArray.toList.length ≤ 100000 by rw [List.toList_toArray]; omega)))
    have g1 : (h1.push (seqObj "list" vs.toArray 0)).get? h1.objs.size = some (seqObj "list" vs.toArray 0) := Heap.get?_push_size _ rfl
    refine wpAny_bind (wpAny_holding ?_)
    refine wpAny_call_entry (T := "list") slot_list_sort ⟨_, g1, rfl⟩ entry_list_sort (list_sort_tree g1 hi hl fun out ns' q1 q2 q3 => ⟨_, rfl, ?_⟩) (args_list_sort _)
    refine wpAny_pure ⟨_, rfl, ?_⟩
    obtain ⟨e, g2⟩ := sortedHeap_at (out := out) g1
    refine h h1 _ h1.objs.size out ns' e k1 (fun b o hb1 => ?_) (Nat.le_refl _) g2 q1 q2 q3
    · have hlt : b < h1.objs.size := Heap.lt_size hb1
      rw [sortedHeap_old (Nat.ne_of_lt hlt) (Nat.lt_trans hlt (by rw [size_push']; exact Nat.lt_succ_self _))]
      exact Heap.get?_push_of_some _ hb1
  exact fun Γ p _ hA => q Γ p hA
/-- a list or a tuple of ints, of few -/
def rSortA (K : Frag) : List V → Hp → VK → Prop := fun vs H Q => ∃ (a : Addr) (ns : List Int), vs = [.ref a] ∧ SqT K H a (ns.map V.int) ∧ ns.length < 64 ∧ ∀ (ns' : List Int) (p : Addr), ns'.Perm ns → ns'.Pairwise (· ≤ ·) → H p = none → Q (.ref p) (upd H p (.lst (ns'.map V.int)))
theorem ints_rel : ∀ {vs : List Value} {ns : List Int}, Vals (ns.map V.int) vs → IntsAre vs ns
  | [], [], _ => .nil
  | u :: vs, n :: ns, h => by
    cases h with
    | cons r t =>
      obtain ⟨tk, rfl⟩ := r
      exact .cons n tk (ints_rel t)
  | [], _ :: _, h => by cases h
  | _ :: _, [], h => by cases h
theorem rel_ints : ∀ {vs : List Value} {ns : List Int}, IntsAre vs ns → Vals (ns.map V.int) vs
  | _, _, .nil => .nil
  | _, _, .cons n t h => .cons ⟨t, rfl⟩ (rel_ints h)
theorem cr_sortA {X : Cx} : CallR X (.builtin "sorted") (rSortA X.K) := fun pins s σ H xs us Q I r q => by
  obtain ⟨a, ns, rfl, hT, hl, hq⟩ := q
  obtain ⟨u, rfl, r2⟩ := vals1 r
  obtain rfl : u = Value.ref a := r2
  obtain ⟨its, rv, p, hz⟩ := I.tuple hT
  have hlen : its.length = ns.length := by rw [← rv.length, List.length_map]
  refine sortedT_call (show s.heap.IsTuple a its.toArray from p) (ints_rel rv) (by omega) fun h1 h' p out ns' e k1 k2 hp hg ho q1 q2 => ?_
  have I1 : L2.Inv X pins σ H { s with heap := h1 } := I.kept (t' := s.toks) k1
  have hlo : ns'.length = ns.length := q1.length_eq
  have ok : ObjOk X.prog X.w (upd H p (.lst (ns'.map V.int))) h' p (.lst (ns'.map V.int)) := ⟨show (ns'.map V.int).length ≤ sizeLine from le_line (by rw [List.length_map, hlo]; omega), out.toList, e, rel_ints ho, by simpa [seqObj] using hg⟩
  have J : L2.Inv X pins σ (upd H p (.lst (ns'.map V.int))) { s with heap := h' } := I1.turnedNew (ch := []) (T := p) (t' := s.toks) (fun b o _ hb => k2 b o hb) (fun b hb => by cases hb) hp ok
  exact ⟨.ref p, _, J, rfl, hq ns' p q1 q2 (I1.hok.fresh hp)⟩
end Kp

namespace Kp
open PySem PySem.Spec PyProof.Rows L2
/-! ### max(e, default=0), of a list of ints -/
theorem maxD_raw {prog : Program} {w : World} {A : Around} {E : Value → Shared → Prop} {s : Shared} {l : Addr} {its : List Value} {ns : List Int} {d : Value} {Q : Value → Shared → Prop} (hh : A.handled = none) (hl : s.heap.IsList l its.toArray) (hi : IntsAre its ns)
    (h0 : ns = [] → ∀ h' tk, (∀ b o, s.heap.get? b = some o → h'.get? b = some o) → Q d { s with heap := h', toks := tk })
    (h : ∀ h' tk M t', (∀ b o, s.heap.get? b = some o → h'.get? b = some o) → M ∈ ns → (∀ a, a ∈ ns → a ≤ M) → Q (.int M t') { s with heap := h', toks := tk }) : wpAny (model prog w) A (call (.builtin "max") [.ref l] [(Str.ofString "default", d)]) Q E s := by
  obtain ⟨xs, e⟩ := hi.allInts.items
  have hn : numsOf (intItems xs).toList = ns := by rw [← e]; exact hi.numsOf
  rw [nums_intItems] at hn
  subst hn
  rw [e] at hl
  refine call_max_walkD (PySem.W.iter_listW (A := A.in1) hh hl fun s₂ e2 W st hfp hw hk => ?_)
  have hsz : (intItems xs).size = xs.size := by unfold intItems; exact Array.size_map ..
  refine ⟨_, _, _, _, _, _, _, s.heap, (fun i j => decide (numAt xs i > numAt xs j)), rfl, W, st, hfp, hw, hk, fun hz s' m => ?_, fun hp => ⟨fun i j vi vj s Q E hH => CmpOf.ints_gt (numAt xs) (fun _ _ => intItems_at) i j vi vj s Q E, fun v s' hP m => ?_⟩⟩
  · obtain ⟨h', tk, rfl, hk'⟩ := PySem.W.moved_old e2 rfl m
    refine h0 (List.eq_nil_of_length_eq_zero ?_) h' tk hk'
    rw [List.length_map, Array.length_toList, ← hsz]
    exact hz
  · obtain ⟨h', tk, rfl, hk'⟩ := PySem.W.moved_old e2 rfl m
    obtain ⟨t, rfl⟩ := intItems_at hP
    have hp' : 0 < xs.size := by rw [← hsz]; exact hp
    rw [hsz] at *
    obtain ⟨h1, h2⟩ := argBest_gt (numAt xs) (xs.size - 1)
    refine h h' tk _ t hk' ?_ fun a ha => ?_
    · rw [numAt_eq]; exact PySem.getD_mem (by rw [List.length_map, Array.length_toList]; omega)
    · obtain ⟨j, hj, rfl⟩ := mem_getD ha
      rw [List.length_map, Array.length_toList] at hj
      rw [← numAt_eq]; exact h2 j (by omega)
def rMaxDf (K : PySem.W.Frag) : List V → List V → Hp → VK → Prop := fun vs zs H Q => ∃ (a : Addr) (ns : List Int) (d : Int), vs = [V.ref a] ∧ zs = [V.int d] ∧ SqL K H a (ns.map V.int) ∧ (ns = [] → Q (.int d) H) ∧ ∀ m, m ∈ ns → (∀ y, y ∈ ns → y ≤ m) → Q (.int m) H
section
variable {X : Cx} {E : XK} {K : Frag}
theorem cr_maxDf (hc : X.calm = true) : CallRK X (.builtin "max") [Str.ofString "default"] (rMaxDf X.K) := by
  intro pins s σ H vs zs us ws Q I r rz h
  obtain ⟨a, ns, d, rfl, rfl, hs, q0, q⟩ := h
  obtain rfl := Vals.ref1 r
  obtain ⟨w1, rfl, e1⟩ := vals1 rz
  obtain ⟨tk, rfl⟩ := e1
  obtain ⟨its, rv, hl, _⟩ := I.list hs
  exact maxD_raw (I.ok.hd hc) hl.isList rv.ints (fun e h' tk' hk => ⟨.int _, H, I.kept hk, ⟨_, rfl⟩, q0 e⟩) fun h' tk m t' hk h1 h2 => ⟨.int _, H, I.kept hk, ⟨_, rfl⟩, q m h1 h2⟩
def dMaxD (d : Int) (da : DE) : DE := fun ρ cs Ed Q => da ρ cs Ed fun x cs1 => match x with
  | .list ds => ∃ ns : List Int, ds = ns.map .int ∧ (ns = [] → Q (.int d) cs1) ∧ ∀ m, IsMax ns m → Q (.int m) cs1
  | _ => False
theorem q_maxD {e : Expr} {p pos kp vp : Pos} {j0 : Nat} {d : Int} {da : DE} (hc : X.calm = true) (ha : QE X E e da) (hm : X.mg "max" = none) (hg : Gl X "max" := by rfl)
    (he0 : starEach [e] X.env = (false, eval e X.env) :: starEach [] X.env := by rfl)
    (he : backTo pos (starEach [e] X.env) = (false, eval e X.env) :: backTo pos (starEach [] X.env) := by rfl) (hpl : (backTo pos (starEach [e] X.env)).any (·.1) = false := by rfl)
    (hall : (backToKw pos (keywordEach [⟨some "default", .Constant (.int d) j0 vp, kp⟩] X.env)).all (·.1.isSome) = true := by rfl) (hnone : (backToKw pos (keywordEach [⟨some "default", .Constant (.int d) j0 vp, kp⟩] X.env)).any (·.1.isNone) = false := by rfl)
    (hks : (backToKw pos (keywordEach [⟨some "default", .Constant (.int d) j0 vp, kp⟩] X.env)).filterMap (·.1) = [Str.ofString "default"] := by rfl) :
    QE X E (.Call (.Name "max" p) [e] [⟨some "default", .Constant (.int d) j0 vp, kp⟩] pos) (dMaxD d da) := by
  obtain ⟨ta, a1, a2⟩ := ha.ex
  refine ⟨_, pe_callBK (cr_maxDf hc) hg hm (by decide +kernel) (pa_cons a1 pa_nil he0) (pk_cons pe_int pk_nil) (he := he) (hpl := hpl) (hall := hall) (hnone := hnone) (hks := hks), fun as σ H ρ cs Ed Qd Q w ev ek h k => a2 as σ H ρ cs Ed _ _ w ev ek h fun v H1 x cs1 e1 w1 d1 h1 => ?_⟩
  cases d1 <;> try exact h1.elim
  rename_i a xs ds g1 g2
  obtain ⟨ns, rfl, h2, h3⟩ := h1
  have ee := dq_ints' ns g2
  subst ee
  exact ⟨a, ns, d, rfl, rfl, SqL.of (hid1 g1), fun en => k _ _ _ cs1 e1 w1 (.int _) (h2 en), fun m m1 m2 => k _ _ _ cs1 e1 w1 (.int _) (h3 m ⟨m1, m2⟩)⟩
/-! ### [e for x in xs for y in ys] -/
def dLc2 (di : DI) (i : Nat) (di1 : DI) (j : Nat) (de : DE) : DL := fun ρ cs Ed Q => di ρ cs Ed fun n item cs1 => ∃ Inv : Nat → List PyData → CS → Prop, Inv 0 [] cs1 ∧
  (∀ t acc cs, t < n → Inv t acc cs → di1 (((ρ.map (shSl 1)).set j .no).set i (.d (item t))) (acc :: cs) X0 fun m item1 cs2 => ∃ Iv1 : Nat → List PyData → CS → Prop, (match cs2 with
    | acc' :: cs' => Iv1 0 acc' cs'
    | [] => False) ∧
    (∀ u acc cs, u < m → Iv1 u acc cs → de ((((ρ.map (shSl 1)).set j .no).set i (.d (item t))).set j (.d (item1 u))) (acc :: cs) X0 fun y cs3 => match cs3 with
      | acc' :: cs' => acc'.length < sizeLine ∧ Iv1 (u + 1) (acc' ++ [y]) cs'
      | [] => False) ∧ ∀ acc cs, Iv1 m acc cs → Inv (t + 1) acc cs) ∧
  ∀ acc cs, Inv n acc cs → Q acc cs
def tOfI (K : Frag) (E : XK) (d : DI) : TI := fun σ H R => ∃ (as : List CA) (ρ : List Sl) (cs : CS) (Ed : XD) (Qd : Nat → (Nat → PyData) → CS → Prop), Wk K H as cs ∧ Ev K H as σ ρ ∧ EK K E Ed as H ∧ d ρ cs Ed Qd ∧
  ∀ J H' n item cs', Ext as H H' → Wk K H' as cs' → ItOk K as H' J n item → Qd n item cs' → R J H'
theorem QI.can {tg e : Expr} {d : DI} (h : QI X E tg e d) : PI X tg e (tOfI X.K E d) := by
  obtain ⟨t, a1, a2⟩ := h.ex
  refine ⟨fun pins s σ H Q I q => a1.run pins s σ H Q I ?_⟩
  obtain ⟨as, ρ, cs, Ed, Qd, h1, h2, h3, h4, h5⟩ := q
  exact a2 as σ H ρ cs Ed Qd Q h1 h2 h3 h4 h5
theorem si_can {d : DI} : SI K E (tOfI K E d) d := fun as σ H ρ cs Ed Qd Q w e ek h k => ⟨as, ρ, cs, Ed, Qd, w, e, ek, h, k⟩
theorem ev_no {as : List CA} {H : Hp} : ∀ {σ : L2.St} {ρ : List Sl} (j : Nat), Ev K H as σ ρ → Ev K H as (σ.set j none) (ρ.set j .no) := fun j e => pr_set (by trivial) j e
theorem set_nn {σ : L2.St} {i j : Nat} {a b : Option V} (h : i ≠ j) : (σ.set i a).set j b = (σ.set j b).set i a := List.set_comm _ _ h
theorem lc2_core' {wi wi1 : TI} {i j : Nat} {te : TE} {di di1 : DI} {de : DE} (hij : i ≠ j) (i2 : SI K E wi di) (i3 : SI K E0 wi1 di1) (e2 : SE K E0 te de) : SN K E (tLc2 wi (gName i) tYes wi1 (gName j) tYes te [i, j] [j]) (dLc2 di i di1 j de) := fun as σ H ρ cs Ed Qd Q w ev ek h k =>
  i2 as σ H ρ cs Ed _ _ w ev ek h fun J H1 n item cs1 e1 w1 it h1 D hD => by
    obtain ⟨Inv, h0, hs, hd⟩ := h1
    have ev1 := ev.ext e1
    have w0 : Wk K (upd H1 D (.lst [])) (cl D :: as) ([] :: cs1) := w1.newc hD .nil
    have e0 : ∀ {H'}, Ext (cl D :: as) (upd H1 D (.lst [])) H' → Ext as H1 H' := fun {H'} q => Ext.cut (ex := [cl D]) (Nw.lst hD) (Ext.of (Same.new hD)) q
    refine ⟨fun t m H' => m = n - t ∧ t ≤ n ∧ ∃ acc cs', Ext (cl D :: as) (upd H1 D (.lst [])) H' ∧ Wk K H' (cl D :: as) (acc :: cs') ∧ Inv t acc cs', ⟨n, by simp, Nat.zero_le _, [], cs1, Ext.refl, w0, h0⟩, ?_⟩
    rintro t m H2 ⟨rfl, ht, acc, cs2, x2, w2, q2⟩
    have fD : ∀ {H' : Hp}, Nw H1 H' [cl D] := Nw.lst hD
    obtain ⟨z1, z2⟩ := it [cl D] H2 fD (e0 x2)
    by_cases hlt : t < n
    · obtain ⟨z3, z4⟩ := z1 t hlt
      refine .inr ⟨z3, fun H' => ∃ acc cs', Ext (cl D :: as) (upd H1 D (.lst [])) H' ∧ Wk K H' (cl D :: as) (acc :: cs') ∧ Inv (t + 1) acc cs', fun H' q => ⟨n - (t + 1), by omega, rfl, hlt, q⟩, fun x H3 y => ?_⟩
      obtain ⟨rfl, dx⟩ := z4 x H3 y
      have wp1 : wipe ((wipe σ [i, j]).set i (some x)) [i, j] = wipe σ [i, j] := by
        show ((((σ.set j none).set i none).set i (some x)).set j none).set i none = (σ.set j none).set i none
        rw [List.set_set, set_nn (a := some x) hij, List.set_set, List.set_set]
      refine ⟨wp1, ?_⟩
      simp only [tYes, ↓reduceIte]
      have evs : Ev K H3 (cl D :: as) σ (ρ.map (shSl 1)) := Ev.sh (ex := [cl D]) fD ev1 (e0 x2)
      have ev3 : Ev K H3 (cl D :: as) ((wipe σ [i, j]).set i (some x)) (((ρ.map (shSl 1)).set j .no).set i (.d (item t))) := by
        have q := ev_set (s := .d (item t)) (v := x) (ev_no j evs) i ⟨x, rfl, dx⟩
        show Ev K H3 (cl D :: as) (((σ.set j none).set i none).set i (some x)) _
        rw [List.set_set]
        exact q
      refine i3 (cl D :: as) _ H3 _ (acc :: cs2) X0 _ _ w2 ev3 ek0 (hs t acc cs2 hlt q2) fun J1 H4 n1 item1 cs4 e4 w4 it1 h4 => ?_
      obtain ⟨acc4, cs4', xs4, rfl, -, -⟩ := w4.head
      obtain ⟨Iv1, k0, ks, kd⟩ := h4
      refine ⟨fun u m1 H' => m1 = n1 - u ∧ u ≤ n1 ∧ ∃ acc cs', Ext (cl D :: as) H4 H' ∧ Wk K H' (cl D :: as) (acc :: cs') ∧ Iv1 u acc cs', ⟨n1, by simp, Nat.zero_le _, acc4, cs4', Ext.refl, w4, k0⟩, ?_⟩
      rintro u m1 H5 ⟨rfl, hu, acc5, cs5, x5, w5, q5⟩
      obtain ⟨y1, y2⟩ := it1 [] H5 Nw.nil x5
      by_cases hlu : u < n1
      · obtain ⟨y3, y4⟩ := y1 u hlu
        refine .inr ⟨y3, fun H' => ∃ acc cs', Ext (cl D :: as) H4 H' ∧ Wk K H' (cl D :: as) (acc :: cs') ∧ Iv1 (u + 1) acc cs', fun H' q => ⟨n1 - (u + 1), by omega, rfl, hlu, q⟩, fun z H6 yz => ?_⟩
        obtain ⟨rfl, dz⟩ := y4 z H6 yz
        refine ⟨wipe1, ?_⟩
        have ev6 : Ev K H6 (cl D :: as) ((wipe ((wipe σ [i, j]).set i (some x)) [j]).set j (some z)) ((((ρ.map (shSl 1)).set j .no).set i (.d (item t))).set j (.d (item1 u))) := by
          have q := ev_set (s := .d (item1 u)) (v := z) ((ev3.ext e4).ext x5) j ⟨z, rfl, dz⟩
          show Ev K H6 (cl D :: as) ((((wipe σ [i, j]).set i (some x)).set j none).set j (some z)) _
          rw [List.set_set]
          exact q
        refine e2 (cl D :: as) _ H6 _ (acc5 :: cs5) X0 _ _ w5 ev6 ek0 (ks u acc5 cs5 hlu q5) fun y' H7 yd cs7 e7 w7 d7 h7 => ?_
        obtain ⟨acc7, cs7', xs7, rfl, g1, g2⟩ := w7.head
        obtain ⟨h8, h9⟩ := h7
        refine ⟨xs7, g1, by rw [g2.len]; exact h8, _, _, (x5.trans e7).trans (ext_upd w7 (j := 0) rfl), ?_, h9⟩
        exact w7.put (j := 0) rfl (g2.app (.one d7))
      · have e : u = n1 := by omega
        subst e
        exact .inl ⟨y2, _, _, (x2.trans e4).trans x5, w5, kd _ _ q5⟩
    · have e : t = n := by omega
      subst e
      refine .inl ⟨z2, k D H2 acc cs2 (e1.trans (e0 x2)) (fresh_of w1 e1 hD) w2 (hd acc cs2 q2)⟩
theorem q_lc2 {elt tg iter tg1 iter1 : Expr} {scope : Scope} {pos : Pos} {di di1 : DI} {de : DE} {x y : Str} (i j : Nat) (hij : i ≠ j) (hc : X.calm = true) (hN : X.N.Nodup) (hi : QI X E tg iter di) (ok : BlkOk X.N X.env.scope scope [(x, i), (y, j)])
    (hg : ∀ (s : Shared) (H : Hp) (C : Addr) (cl : List (Str × Addr)) (fp : List Addr), PG (X.blk s H scope (compEnvC scope cl C X.env) fp) tg (gName i))
    (hi1 : ∀ (s : Shared) (H : Hp) (C : Addr) (cl : List (Str × Addr)) (fp : List Addr), QI (X.blk s H scope (compEnvC scope cl C X.env) fp) E0 tg1 iter1 di1)
    (hg1 : ∀ (s : Shared) (H : Hp) (C : Addr) (cl : List (Str × Addr)) (fp : List Addr), PG (X.blk s H scope (compEnvC scope cl C X.env) fp) tg1 (gName j))
    (he : ∀ (s : Shared) (H : Hp) (C : Addr) (cl : List (Str × Addr)) (fp : List Addr), QE (X.blk s H scope (compEnvC scope cl C X.env) fp) E0 elt de)
    (hs : ∀ x, foldedSetIterable iter X.env x = pure x := by intro _; rfl) (hs1 : ∀ env x, foldedSetIterable iter1 env x = pure x := by intro _ _; rfl) : QN X E (.ListComp elt [⟨tg, iter, [], 0⟩, ⟨tg1, iter1, [], 0⟩] scope pos) (dLc2 di i di1 j de) := by
  obtain ⟨wi, i1, i2⟩ := hi.ex
  exact ⟨_, pe_lc2 (own := [(x, i), (y, j)]) (vs1 := [j]) (g := gName i) (tt := tYes) (wi1 := tOfI X.K E0 di1) (g1 := gName j) (tt1 := tYes) (te := tOfE X.K E0 de) hc hN i1 ok (fun k hk => by rw [List.mem_singleton.mp hk]; exact List.mem_cons_of_mem _ List.mem_cons_self) hg (fun _ _ _ _ _ => pts_nil) (fun s H C cl fp => (hi1 s H C cl fp).can) hg1 (fun _ _ _ _ _ => pts_nil) (fun s H C cl fp => (he s H C cl fp).can) hs hs1, lc2_core' hij i2 si_can se_can⟩
end
end Kp

namespace Kp
open PySem PySem.Spec PyProof.Rows L2
/-! ### x not in [..], by worth -/
section
variable {K : Frag}
def dNotInD : R2D := fun x y Q => match y with
  | .list ds => SeqAt.shaped x = true ∧ SeqAt.shaped (.list ds) = true ∧ Q (.bool (!ds.any fun z => PyData.eqv z x))
  | _ => False
theorem sr_notInD : SR K (rNotInD K) dNotInD := fun as H cs v u x y Qd Q w hx hy h k => by
  match y, hy, h with
  | .list ds, hy, ⟨h1, h2, h3⟩ =>
    exact ⟨x, ds, dp_mono (hid_sub H as) (hx.dp (SeqAt.canLay_of_shaped h1)), dp_mono (hid_sub H as) (hy.dp (SeqAt.canLay_of_shaped h2)), h1, h2, k _ H _ (Same.refl H) (.bl _) h3⟩
theorem room65 {k : Nat} {A : Around} (h : Room k A) : A.units + 65 < cLine := by have := room100 h; omega
end
/-! ### a tuple no times -/
theorem tmul0 (l : Addr) (items : Array Value) (n : Nat) (dd : Option Addr) (sl : Array (Option Value)) (x : Int) (u : Tok) (c0 : (decide (x < -(2 ^ 63)) || decide (x ≥ 2 ^ 63)) = false) (c1 : (items.isEmpty || x == 1) = false) (c2 : (decide (x ≤ 0) || items.isEmpty) = true) (hsz : (#[] : Array Value).size ≤ sizeLine) :
    Meets (Builtin.«tuple.__mul__» ⟨[.ref l, .int x u], []⟩) (fun _ R s => s.heap.get? l = some { cls := .type "tuple", dict := dd, data := .seq items n, slots := sl } ∧
      R (.ok (.ret (Value.ref s.heap.objs.size))) { s with heap := s.heap.push { cls := Value.type "tuple", data := Data.seq #[] }, toks := s.toks }) :=
  .of_wp fun prog w A R s h => by
    obtain ⟨hp, g, d, tk, os⟩ := s
    obtain ⟨hl, h⟩ := h
    have f1 := AutoSeq1.idx_int
    wp_walk using wpAny_loadPart' hl
    repeat (first
      | (refine wpAny_ite_false (decide_eq_false (by rw [c0]; exact Bool.false_ne_true)) ?_; wp_walk using wpAny_loadPart' hl)
      | (refine wpAny_ite_false (decide_eq_false (by rw [c1]; exact Bool.false_ne_true)) ?_; wp_walk using wpAny_loadPart' hl)
      | (refine wpAny_ite_true (decide_eq_true c2) ?_; wp_walk using wpAny_loadPart' hl)
      | (refine wpAny_ite_false (decide_eq_false (Nat.not_lt.mpr hsz)) ?_; wp_walk using wpAny_loadPart' hl))
    exact ⟨_, rfl, h⟩
section
variable {X : Cx} {K : Frag}
def rRep0 (K : Frag) : R2 := fun x y H Q => ∃ l xs, x = .ref l ∧ y = .int 0 ∧ SqT K H l xs ∧ xs ≠ [] ∧ ∀ p, H p = none → Q (.ref p) (upd H p (.tup []))
theorem op_rep0 : OpR X (binaryOp .Mult) (rRep0 X.K) := by
  intro pins s σ H x y v u Q I rx ry h
  obtain ⟨l, xs, rfl, rfl, hT, hne, q⟩ := h
  cases rx
  obtain ⟨t, rfl⟩ := ry
  obtain ⟨its, r, ⟨⟨cls, dd, data, sl⟩, ho, hc, n, hd⟩, hs⟩ := I.tuple hT
  simp only at hc hd
  subst hc hd
  have hi : its.toArray.isEmpty = false := by
    cases its with
    | nil => cases r; exact absurd rfl hne
    | cons a b => rfl
  refine wpAny_binaryOp_repeat_ref (T := "tuple") (U := "int") (by decide) ⟨_, ho, rfl⟩ (fun s' => typeIs_int s' 0 t) noFill_tuple_mul F.fills_int_mul F.slot_int_rmul repeat_tuple F.slot_int_index.lookup
    (call_meets F.slot_int_rmul (typeIs_int s 0 t) F.entry_int_rmul (F.args_int_rmul_2 _ _) (int_rmul_tuple 0 t l its.toArray n dd sl)
      ⟨ho, rfl, ⟨_, ho, rfl⟩, call_meets F.slot_tuple_mul ⟨_, ho, rfl⟩ F.entry_tuple_mul (F.args_tuple_mul_2 _ _) (tmul0 l its.toArray n dd sl 0 t (by decide) (by rw [hi]; rfl) (by rfl) (by decide)) ⟨ho, ?_⟩⟩)
  exact ⟨.ref s.heap.objs.size, _, I.laid (t' := s.toks) (o := .tup []) (fun b ob q => Heap.get?_push_of_some _ q) (Nat.le_refl _) ⟨Nat.zero_le _, [], .nil, IsTup.new _ _⟩, rfl, q _ (I.hok.fresh (Nat.le_refl _))⟩
abbrev rTimesZ (K : Frag) : R2 := fun x y H Q => rTimesW K x y H Q ∨ rRep0 K x y H Q
theorem op_timesZ : OpR X (binaryOp .Mult) (rTimesZ X.K) := OpR.or op_timesW op_rep0
def dTimesZ : R2D := fun x y Q => match x, y with
  | .int i, .int j => CMulW i j ∧ Q (.int (i * j))
  | .tuple xs, .int n => (0 ≤ n ∧ n ≤ 1000 ∧ xs ≠ [] ∧ xs.length ≤ 1000) ∧ Q (.tuple (List.replicate n.toNat xs).flatten)
  | _, _ => False
theorem sr_timesZ : SR K (rTimesZ K) dTimesZ := fun as H cs v u x y Qd Q w hx hy h k => by
  by_cases c : (∃ xs n, x = .tuple xs ∧ y = .int n ∧ n = 0)
  · obtain ⟨xs, n, rfl, rfl, rfl⟩ := c
    cases hx with
    | tup g1 g2 =>
      cases hy
      obtain ⟨⟨-, -, h3, -⟩, h5⟩ := h
      refine .inr ⟨_, _, rfl, rfl, hidT g1, fun z => ?_, fun p hp => ?_⟩
      · subst z
        cases g2
        exact h3 rfl
      · exact k _ _ _ (Same.new hp) (.tup (SqT.of (hid_new (w.fresh hp))) .nil) h5
  · refine .inl (sr_timesW as H cs v u x y Qd Q w hx hy ?_ k)
    match x, y, h, c with
    | .int i, .int j, h, _ => exact h
    | .tuple xs, .int n, ⟨⟨h1, h2, h3, h4⟩, h5⟩, c => exact ⟨⟨by
        have : n ≠ 0 := fun z => c ⟨xs, n, rfl, rfl, z⟩
        omega, h2, h3, h4⟩, h5⟩
end
end Kp

namespace Kp
open PySem PySem.Spec PyProof.Rows L2
/-! ### xs.extend(a tuple) -/
theorem extTup (l b : Addr) (xs ys : Array Value) (n m : Nat) (dd : Option Addr) (sl : Array (Option Value)) (k0 : ¬(!xs.isEmpty && Builtin.List.listTooLong (xs.size + ys.size)) = true) (k1 : xs.size ≤ sizeLine) (k2 : (xs ++ ys).size ≤ sizeLine + 1) :
    Meets (Builtin.«list.extend» ⟨[.ref l, .ref b], []⟩)
      (fun _ R s => s.heap.get? l = some (seqObj "list" xs n) ∧
        s.heap.get? b = some { cls := .type "tuple", dict := dd, data := .seq ys m, slots := sl } ∧
        R (.ok (.ret Value.none)) { s with heap := s.heap.update l (Obj.mapSeq fun x => x ++ ys), toks := s.toks }) :=
  .of_wp fun prog w A R s h => by
    obtain ⟨hh, gg, d, tk, os⟩ := s
    obtain ⟨hl, hb, h⟩ := h
    unfold seqObj at hl
    have g1 := AutoSeq1.idx_int
    have g2 := AutoSeq1.sub_tuple_tuple
    have g3 := AutoSeq1.sub_list_list
    have g4 := AutoSeq1.sub_tuple_list
    have g5 := AutoSeq1.sub_list_tuple
    wp_walk using (wpAny_updateSeq hl rfl (hz := k1) (_hz' := k2)), wpAny_loadPart' hl,
      wpAny_loadPart' hb
    exact ⟨_, rfl, h⟩
def rExtT (K : Frag) : V → List V → Hp → VK → Prop := fun x vs H Q => ∃ l b xs zs, x = .ref l ∧ vs = [.ref b] ∧ H l = some (.lst xs) ∧ SqT K H b zs ∧ xs.length + zs.length ≤ sizeLine ∧ Q .non (upd H l (.lst (xs ++ zs)))
section
variable {X : Cx} {E : XK} {K : Frag}
theorem mt_extT : MtM X "list.extend" (rExtT X.K) := by
  intro pins s σ H x vs v us Q I rx rv h
  obtain ⟨l, b, xs, zs, rfl, rfl, hH, hB, hz, q⟩ := h
  cases rx
  obtain ⟨u, rfl, ru⟩ := rv.one
  cases ru
  obtain ⟨z, its, n, r, hl, e⟩ := I.lstM hH
  obtain ⟨its2, r2, ⟨⟨cls, dd, data, sl⟩, ho, hc, m, hd⟩, hs⟩ := I.tuple hB
  simp only at hc hd
  subst hc hd
  have n1 := r.length
  have n2 := r2.length
  have hk : its.toArray.size + its2.toArray.size ≤ sizeLine := by
    rw [List.size_toArray, List.size_toArray]
    omega
  refine call_meets F.slot_list_extend ⟨_, e, rfl⟩ F.entry_list_extend (F.args_list_extend_2 _ _)
    (extTup l b its.toArray its2.toArray n m dd sl (fun y => by
      rw [notLongL hk, Bool.and_false] at y
      cases y) (by omega) (by rw [Array.size_append]; omega)) ⟨e, ho, ?_⟩
  refine ⟨.non, _, I.lset (its' := its ++ its2) hH e (by simp) (r.append r2) ?_, rfl, q⟩
  rw [List.length_append]
  exact hz
theorem mt_extA : MtM X "list.extend" (fun x vs H Q => rExtend x vs H Q ∨ rExtT X.K x vs H Q) := by
  intro pins s σ H x vs v us Q I rx rv h
  rcases h with h | h
  · exact mt_extend pins s σ H x vs v us Q I rx rv h
  · exact mt_extT pins s σ H x vs v us Q I rx rv h
def dExtA (i : Nat) (dv : DE) : DS := fun Dd ρ cs => match ρ[i]? with
  | some (.c j) => (cs[j]?).isSome = true ∧ dv ρ cs Dd.ex fun x cs1 => match x with
    | .list es => ∃ ds, cs1[j]? = some ds ∧ ds.length + es.length ≤ sizeLine ∧ Dd.nx 0 ρ (cs1.set j (ds ++ es))
    | .tuple es => ∃ ds, cs1[j]? = some ds ∧ ds.length + es.length ≤ sizeLine ∧ Dd.nx 0 ρ (cs1.set j (ds ++ es))
    | _ => False
  | _ => False
theorem q_extA {o e : Expr} {pos apos cpos : Pos} {dv : DE} (i : Nat) (ho : PE X o (tVar i)) (hv : QE X E e dv)
    (hs0 : swapsWith (.Call (.Attribute o "extend" apos) [e] [] cpos) none pos.line X.env = pure false := by rfl)
    (hbase : attributeBase o "extend" X.env (eval o X.env) = eval o X.env := by rfl)
    (hfew : ((backTo cpos (starEach [e] X.env)).all (fun x => !x.1) && (backToKw cpos (keywordEach [] X.env)).all (fun x => x.1.isSome)
      && decide (([e] : List Expr).length + ([] : List Keyword).length + (if ([] : List Keyword).isEmpty then 0 else 1) < 30)) = true := by rfl)
    (hline : (apos.endLine == cpos.line) = true := by rfl) (hs : starEach [e] X.env = (false, eval e X.env) :: starEach [] X.env := by rfl) (hplain : (backTo cpos (starEach [] X.env)).any (·.1) = false := by rfl) :
    QS X E (.Expr (.Call (.Attribute o "extend" apos) [e] [] cpos) pos) (dExtA i dv) := by
  obtain ⟨tv, v1, v2⟩ := hv.ex
  refine ⟨_, ps_expr (pe_bm PySem.F.plainAttrs_list PySem.F.slot_list_extend PySem.F.type_list_extend mt_extA ho (pa_cons v1 pa_nil hs) hbase hfew hline hs hplain) hs0, fun as σ H ρ cs D Dd w ev ek h S => ?_⟩
  unfold dExtA at h
  cases q : ρ[i]? with
  | none => rw [q] at h; exact h.elim
  | some s =>
    rw [q] at h
    obtain ⟨o, hoo, hss⟩ := pr_get ev q
    cases s with
    | c j =>
      obtain ⟨a, g1, rfl⟩ := hss
      obtain ⟨h0, h⟩ := h
      obtain ⟨ds0, hd0⟩ := Option.isSome_iff_exists.mp h0
      obtain ⟨xs0, g00, _⟩ := w.lst g1 hd0
      refine ⟨_, hoo, .inl ⟨rfl, xs0, SqL.of g00⟩, v2 as σ H ρ cs Dd.ex _ _ w ev ek h fun v H1 x cs1 e1 w1 d1 h1 => ?_⟩
      have ha : a ∈ as := mem_at g1
      cases d1 <;> try exact h1.elim
      · rename_i b zs es gb gz
        obtain ⟨ds, g2, g3, g4⟩ := h1
        obtain ⟨xs, g6, g7⟩ := w1.lst g1 g2
        exact .inl ⟨a, b, xs, zs, rfl, rfl, g6, hid1 gb, by rw [g7.len, gz.len]; exact g3, S.nx [] σ _ ρ _ Nw.nil (e1.trans (ext_upd w1 g1)) (w1.put g1 (g7.app gz)) ((ev.ext e1).ext (ext_upd w1 g1)) g4⟩
      · rename_i b zs es gb gz
        obtain ⟨ds, g2, g3, g4⟩ := h1
        obtain ⟨xs, g6, g7⟩ := w1.lst g1 g2
        exact .inr ⟨a, b, xs, zs, rfl, rfl, g6, hidT gb, by rw [g7.len, gz.len]; exact g3, S.nx [] σ _ ρ _ Nw.nil (e1.trans (ext_upd w1 g1)) (w1.put g1 (g7.app gz)) ((ev.ext e1).ext (ext_upd w1 g1)) g4⟩
    | _ => exact h.elim
/-- three names of one's own at once, new lists among them -/
theorem q_parM3 {i j l : Nat} {x y z : Str} {a b c : Expr} {px py pz pt pos : Pos} {kt k2 : Nat} {pt2 : Pos} {d : DAn} (hc : X.calm = true) (hN : X.N.Nodup) (ha : QAn X E [a, b, c] d) (hi : X.N[i]? = some x := by rfl) (hj : X.N[j]? = some y := by rfl) (hl : X.N[l]? = some z := by rfl)
    (hij : i ≠ j := by decide) (hil : i ≠ l := by decide) (hjl : j ≠ l := by decide)
    (hx : X.env.scope.names.lookup x = some .local := by rfl) (hy : X.env.scope.names.lookup y = some .local := by rfl) (hz : X.env.scope.names.lookup z = some .local := by rfl)
    (hw : swappedStores [.Tuple [.Name x px, .Name y py, .Name z pz] kt pt] (.Tuple [a, b, c] k2 pt2) X.env = pure (some [x, y, z]) := by rfl)
    (hs : swapsWithSole [.Tuple [.Name x px, .Name y py, .Name z pz] kt pt] (.Tuple [a, b, c] k2 pt2) pos.line X.env = pure false := by rfl) :
    QS X E (.Assign [.Tuple [.Name x px, .Name y py, .Name z pz] kt pt] (.Tuple [a, b, c] k2 pt2) pos) (dUnpN [i, j, l] d) := by
  obtain ⟨ta, a1, a2⟩ := ha.ex
  refine ⟨_, ps_par3 hc hN hi hj hl hij hil hjl hx hy hz a1 hw hs, fun as σ H ρ cs D Dd w ev ek h S => a2 as σ H ρ cs Dd.ex _ _ w ev ek h fun vs H2 ex ss cs2 nw e2 w2 d2 h2 => ?_⟩
  obtain ⟨ρ', q1, q2⟩ := h2
  match ss, vs, d2, q1 with
  | [], _, _, q1 => cases q1
  | [_], _, _, q1 => cases q1
  | [_, _], _, _, q1 => cases q1
  | _ :: _ :: _ :: _ :: _, _, _, q1 => cases q1
  | [_, _, _], _, .cons z1 (.cons z2 (.cons z3 .nil)), q1 =>
    cases (show some _ = some ρ' from q1)
    exact ⟨_, _, _, rfl, S.nx ex _ H2 _ cs2 nw e2 w2 (ev_set (ev_set (ev_set (Ev.sh nw ev e2) i z1.1) j z2.1) l z3.1) q2⟩
end
end Kp

namespace Kp
open PySem PySem.Spec PyProof.Rows L2
/-! ### sorted of a list or a tuple of ints, however many -/
theorem sortedTI_call {prog : Program} {w : World} {A : Around} {E : Value → Shared → Prop} {s : Shared} {l : Addr} {vs : List Value} {ns : List Int} {Q : Value → Shared → Prop} (ht : s.heap.IsTuple l vs.toArray) (hi : IntsAre vs ns) (hz : vs.length ≤ sizeLine)
  (h : ∀ (h1 h' : Heap) (p : Addr) (out : List Value) (e : Nat), (∀ b o, s.heap.get? b = some o → h1.get? b = some o) → (∀ b o, h1.get? b = some o → h'.get? b = some o) → h1.objs.size ≤ p → h'.get? p = some (seqObj "list" out.toArray e) → IntsAre out (out.map SrtO.iv) → (out.map SrtO.iv).Perm ns → (out.map SrtO.iv).Pairwise (· ≤ ·) → Q (.ref p) { s with heap := h' }) : wpAny (model prog w) A (call (.builtin "sorted") [.ref l]) Q E s := by
  refine call_builtin_at plain_sorted entry_sorted (args_sorted1 _) ?_
  have q : wpAny (model prog w) A.in1 (Builtin.sorted { pos := [Value.ref l] }) (fun fin s' => ∃ v, fin = Fin.done (Flow.ret v) ∧ Q v s') E s := by
    obtain ⟨⟨oc, od, odt, osl⟩, ho, hc, n, hd⟩ := id ht
    have hc' : oc = Value.type "tuple" := hc
    have hd' : odt = Data.seq vs.toArray n := hd
    subst hc' hd'
    refine wpAny_bind (wpAny_pure ?_)
    refine wpAny_bind (wpAny_collect_seq l (.inr rfl) ho rfl rfl (fun h1 k1 => ?_) (by rw [List.size_toArray]; exact hz))
    refine wpAny_bind (wpAny_newList ?_ (show vs.toArray.toList.length ≤ sizeLine by rw [List.toList_toArray]; exact hz))
    have g1 : (h1.push (seqObj "list" vs.toArray 0)).get? h1.objs.size = some (seqObj "list" vs.toArray 0) := Heap.get?_push_size _ rfl
    refine wpAny_bind (wpAny_holding ?_)
    refine wpAny_call_entry (T := "list") slot_list_sort ⟨_, g1, rfl⟩ entry_list_sort (SrtO.list_sort_ord SrtO.swo_int g1 hz (fun h2 => SrtO.ints_sortable hi h2) fun out q1 q2 => ⟨_, rfl, ?_⟩) (args_list_sort _)
    refine wpAny_pure ⟨_, rfl, ?_⟩
    obtain ⟨k2, k3, k4⟩ := SrtO.ints_out hi q1 q2
    obtain ⟨e, g2⟩ := sortedHeap_at (out := out.toArray) g1
    refine h h1 _ h1.objs.size out e k1 (fun b o hb1 => ?_) (Nat.le_refl _) g2 k2 k3 k4
    · have hlt : b < h1.objs.size := Heap.lt_size hb1
      rw [sortedHeap_old (Nat.ne_of_lt hlt) (Nat.lt_trans hlt (by rw [size_push']; exact Nat.lt_succ_self _))]
      exact Heap.get?_push_of_some _ hb1
  exact fun Γ p _ hA => q Γ p hA
def rSortTI (K : Frag) : List V → Hp → VK → Prop := fun vs H Q => ∃ (a : Addr) (ns : List Int), vs = [.ref a] ∧ (SqL K H a (ns.map V.int) ∨ SqT K H a (ns.map V.int)) ∧ ∀ (ns' : List Int) (p : Addr), ns'.Perm ns → ns'.Pairwise (· ≤ ·) → H p = none → Q (.ref p) (upd H p (.lst (ns'.map V.int)))
theorem cr_sortTI {X : Cx} : CallR X (.builtin "sorted") (rSortTI X.K) := fun pins s σ H xs us Q I r q => by
  obtain ⟨a, ns, rfl, hT | hT, hq⟩ := q
  · exact cr_sortedI pins s σ H _ us Q I r ⟨a, ns, rfl, hT, hq⟩
  obtain ⟨u, rfl, r2⟩ := vals1 r
  obtain rfl : u = Value.ref a := r2
  obtain ⟨its, rv, p, hz⟩ := I.tuple hT
  have hlen : its.length = ns.length := by rw [← rv.length, List.length_map]
  refine sortedTI_call (show s.heap.IsTuple a its.toArray from p) (ints_rel rv) (by rw [hlen]; rw [List.length_map] at hz; exact hz) fun h1 h' p out e k1 k2 hp hg ho q1 q2 => ?_
  have I1 : L2.Inv X pins σ H { s with heap := h1 } := I.kept (t' := s.toks) k1
  have hlo : (out.map SrtO.iv).length = ns.length := q1.length_eq
  have ok : ObjOk X.prog X.w (upd H p (.lst ((out.map SrtO.iv).map V.int))) h' p (.lst ((out.map SrtO.iv).map V.int)) := ⟨show ((out.map SrtO.iv).map V.int).length ≤ sizeLine by rw [List.length_map, hlo]; rw [List.length_map] at hz; exact hz, out, e, rel_ints ho, by simpa [seqObj] using hg⟩
  have J : L2.Inv X pins σ (upd H p (.lst ((out.map SrtO.iv).map V.int))) { s with heap := h' } := I1.turnedNew (ch := []) (T := p) (t' := s.toks) (fun b o _ hb => k2 b o hb) (fun b hb => by cases hb) hp ok
  exact ⟨.ref p, _, J, rfl, hq _ p q1 q2 (I1.hok.fresh hp)⟩
section
variable {K : Frag}
def cSrtA : RC := fun ds Q => match ds with
  | [.list xs] => ∃ ns : List Int, xs = ns.map .int ∧ ∀ ns' : List Int, ns'.Perm ns → ns'.Pairwise (· ≤ ·) → Q (.list (ns'.map .int))
  | [.tuple xs] => ∃ ns : List Int, xs = ns.map .int ∧ ∀ ns' : List Int, ns'.Perm ns → ns'.Pairwise (· ≤ ·) → Q (.list (ns'.map .int))
  | _ => False
theorem sc_srtA : SC K (rSortTI K) cSrtA := fun as H cs vs ds Qd Q w d h k => by
  match ds, d with
  | [.list xs], .cons (.lst h1 h2) .nil =>
    obtain ⟨bs, rfl, h3⟩ := h
    have e := dq_ints' bs h2
    subst e
    exact ⟨_, bs, rfl, .inl (SqL.of (hid1 h1)), fun ns' p hp ho hf => k _ _ _ (Same.new hf) (.lst (hid_new (w.fresh hf)) (dq_ints ns')) (h3 ns' hp ho)⟩
  | [.tuple xs], .cons (.tup h1 h2) .nil =>
    obtain ⟨bs, rfl, h3⟩ := h
    have e := dq_ints' bs h2
    subst e
    exact ⟨_, bs, rfl, .inr (hidT h1), fun ns' p hp ho hf => k _ _ _ (Same.new hf) (.lst (hid_new (w.fresh hf)) (dq_ints ns')) (h3 ns' hp ho)⟩
end
section
variable {K : Frag} {E : XK} {X : Cx}
theorem sn_frzN {t : TE} {dl : DL} (a2 : SN K E t dl) : SN K E t (dFrzN dl) := fun as σ H ρ cs Ed Qd Q w ev ek h k => by
  refine a2 [] σ H _ [] _ _ _ Wk.nil (ev.frz w) (ek_frz ek w) h fun p H' ds cs' e hp w' q => ?_
  have s := e.nil
  have wg : Wk K H' as cs := w.grow s
  have nw : Nw H H' [cl p] := Nw.lst hp
  cases w'.cel with
  | cons c0 _ =>
    obtain ⟨xs, c1, c2⟩ := c0
    have hn : p ∉ hdl H' as := fun z => by
      rw [hdl_same w.lv s] at z
      obtain ⟨o, q⟩ := w.alh z
      rw [hp] at q; cases q
    have lvp : Lv H' (cl p :: as) := fun i g q => by
      cases i with
      | zero => cases q; rfl
      | succ i => exact wg.lv i g (by simpa using q)
    have ls : Lv H' (cl p :: as) ∧ ∀ a : Addr, a ∈ hdl H' (cl p :: as) → ∃ o, H' a = some o ∧ ((∃ xs, o = .lst xs) ∨ (∃ ks, o = .dK ks) ∨ (∃ C dx fs, o = .ins C dx fs) ∨ ∃ ps, o = .tbl ps) := ⟨lvp, fun a ha => by
      rcases List.mem_cons.mp (show a ∈ p :: hdl H' as from ha) with z | z
      · rw [z]; exact ⟨_, c1, .inl ⟨_, rfl⟩⟩
      · exact wg.lists.2 a z⟩
    refine k p H' ds cs (Ext.of s) hp ⟨(show (p :: hdl H' as).Nodup from List.nodup_cons.mpr ⟨hn, wg.nd⟩), .cons ⟨xs, c1, (c2.mono (hid_sub _ _)).free ls q.1⟩ (pr_map (fun f ds q => q.move (hid_sh (ex := [cl p]) nw (Ext.of s)) fun b _ o h => s _ _ h) w.cel)⟩ q.2
/-! ### x = [.. for n, y in enumerate(ys) if ..] as a new list, other cells looked at alone -/
theorem q_newLcE {elt e c : Expr} {elts : List Expr} {kk : Nat} {tpos p p2 : Pos} {scope : Scope} {pos py spos : Pos} {y : Str} {da : DE} {dt : DT} {de : DE} {own : List (Str × Nat)} (i : Nat) (hc : X.calm = true) (hN : X.N.Nodup) (hm : X.mg "enumerate" = none) (ha : QE X E e da) (ok : BlkOk X.N X.env.scope scope own)
    (hg : ∀ (s : Shared) (H : Hp) (C : Addr) (cl : List (Str × Addr)) (fp : List Addr), PG (X.blk s H scope (compEnvC scope cl C X.env) fp) (.Tuple elts kk tpos) (gTup X.K (own.map (·.2)).length (gNames (own.map (·.2)))))
    (ht : ∀ (s : Shared) (H : Hp) (C : Addr) (cl : List (Str × Addr)) (fp : List Addr), QT (X.blk s H scope (compEnvC scope cl C X.env) fp) E0 c dt)
    (he : ∀ (s : Shared) (H : Hp) (C : Addr) (cl : List (Str × Addr)) (fp : List Addr), QE (X.blk s H scope (compEnvC scope cl C X.env) fp) E0 elt de)
    (hy : X.N[i]? = some y := by rfl) (hyl : X.env.scope.names.lookup y = some .local := by rfl) (hsw : swapsWith (.ListComp elt [⟨.Tuple elts kk tpos, .Call (.Name "enumerate" p) [e] [] p2, [c], 0⟩] scope pos) (some (.Name y py)) spos.line X.env = pure true := by exact sw_true rfl rfl rfl (by decide +kernel))
    (hgl : Gl X "enumerate" := by rfl) (he0 : starEach [e] X.env = (false, eval e X.env) :: starEach [] X.env := by rfl) (hs0 : starEach [e] X.env = [(false, eval e X.env)] := by rfl)
    (hs : ∀ x, foldedSetIterable (.Call (.Name "enumerate" p) [e] [] p2) X.env x = pure x := by intro _; rfl) : QS X E (.Assign [.Name y py] (.ListComp elt [⟨.Tuple elts kk tpos, .Call (.Name "enumerate" p) [e] [] p2, [c], 0⟩] scope pos) spos) (dNew i (dFrzN (dLcT (iEnD da) (own.map (·.2)) dt de))) := by
  obtain ⟨ta, a1, a2⟩ := ha.ex
  refine ⟨_, ps_setLc (own := own) (g := gTup X.K (own.map fun z : Str × Nat => z.2).length (gNames (own.map fun z : Str × Nat => z.2))) (tt := tOfT X.K E0 dt) (te := tOfE X.K E0 de) hc hN hy hyl hsw (pi_et hgl hm (pa_cons a1 pa_nil he0) hs0) ok hg (fun s H C cl fp => pts_one (ht s H C cl fp).can) (fun s H C cl fp => (he s H C cl fp).can) hs, fun as σ H ρ cs D Dd w ev ek h S => (sn_frzN (lc_coreW (siw_en a2) st_can se_can)) as σ H ρ cs Dd.ex _ _ w ev ek h fun p H1 ds cs1 e1 hp w1 h1 => ?_⟩
  have hf1 : ∀ {H' : Hp}, Nw H H' [cl p] := Nw.lst hp
  exact S.nx [cl p] _ H1 _ (ds :: cs1) hf1 e1 w1 (ev_set (s := .c 0) (Ev.sh hf1 ev e1) i ⟨p, rfl, rfl⟩) h1
end
section
variable {K : Frag} {E : XK} {X : Cx}
/-! ### xs.pop(e), from 0 on -/
theorem DqAll.erase {H : Hp} : ∀ {xs : List V} {ds : List PyData} (k : Nat), DqAll K H xs ds → DqAll K H (xs.eraseIdx k) (ds.eraseIdx k)
  | [], [], _, _ => .nil
  | _ :: _, _ :: _, 0, .cons _ t => t
  | _ :: _, _ :: _, k + 1, .cons r t => .cons r (DqAll.erase k t)
def dPopI (i : Nat) (de : DE) : DE := fun ρ cs Ed Q => match ρ[i]? with
  | some (.c j) => (cs[j]?).isSome = true ∧ de ρ cs Ed fun y cs1 => match y with
    | .int z => ∃ (ds : List PyData) (k : Nat) (d : PyData), cs1[j]? = some ds ∧ ds.length < 2 ^ 40 ∧ z = (k : Int) ∧ ds[k]? = some d ∧ Q d (cs1.set j (ds.eraseIdx k))
    | _ => False
  | _ => False
theorem q_popI {o e : Expr} {apos cpos : Pos} {de : DE} (i : Nat) (ho : PE X o (tVar i)) (hv : QE X E e de)
    (hbase : attributeBase o "pop" X.env (eval o X.env) = eval o X.env := by rfl)
    (hfew : ((backTo cpos (starEach [e] X.env)).all (fun x => !x.1) && (backToKw cpos (keywordEach [] X.env)).all (fun x => x.1.isSome)
      && decide (([e] : List Expr).length + ([] : List Keyword).length + (if ([] : List Keyword).isEmpty then 0 else 1) < 30)) = true := by rfl)
    (hline : (apos.endLine == cpos.line) = true := by rfl) (hs : starEach [e] X.env = (false, eval e X.env) :: starEach [] X.env := by rfl) (hplain : (backTo cpos (starEach [] X.env)).any (·.1) = false := by rfl) :
    QE X E (.Call (.Attribute o "pop" apos) [e] [] cpos) (dPopI i de) := by
  obtain ⟨tv, v1, v2⟩ := hv.ex
  refine ⟨_, pe_bm PySem.F.plainAttrs_list PySem.F.slot_list_pop PySem.F.type_list_pop mt_popAt ho (pa_cons v1 pa_nil hs) hbase hfew hline hs hplain, fun as σ H ρ cs Ed Qd Q w ev ek h k => ?_⟩
  unfold dPopI at h
  cases q : ρ[i]? with
  | none => rw [q] at h; exact h.elim
  | some s =>
    rw [q] at h
    obtain ⟨o, hoo, hss⟩ := pr_get ev q
    cases s with
    | c j =>
      obtain ⟨a, g1, rfl⟩ := hss
      obtain ⟨h0, h⟩ := h
      obtain ⟨ds0, hd0⟩ := Option.isSome_iff_exists.mp h0
      obtain ⟨xs0, g00, _⟩ := w.lst g1 hd0
      refine ⟨_, hoo, .inl ⟨rfl, xs0, SqL.of g00⟩, v2 as σ H ρ cs Ed _ _ w ev ek h fun v H1 x cs1 e1 w1 d1 h1 => ?_⟩
      cases d1 <;> try exact h1.elim
      obtain ⟨ds, n, d, g2, gn, rfl, g3, g4⟩ := h1
      obtain ⟨xs, g6, g7⟩ := w1.lst g1 g2
      have hn : n < ds.length := by
        rcases Nat.lt_or_ge n ds.length with z | z
        · exact z
        · rw [List.getElem?_eq_none z] at g3; cases g3
      have hx : n < xs.length := by rw [g7.len]; exact hn
      obtain ⟨d', k1, k2⟩ := g7.get' (List.getElem?_eq_getElem hx)
      obtain rfl : d' = d := by rw [g3] at k1; cases k1; rfl
      refine ⟨a, xs, (n : Int), n, xs[n], rfl, rfl, g6, by omega, by omega, ?_, List.getElem?_eq_getElem hx, ?_⟩
      · have z := seqIndex_of (k := (n : Int)) (n := xs.length) (by omega) (by omega)
        simpa using z
      · exact k _ _ d' _ (e1.trans (ext_upd w1 g1)) (w1.put g1 (g7.erase n)) (by rw [hid_upd w1 g1]; exact k2) g4
    | _ => exact h.elim
end
section
variable {K : Frag} {E : XK} {X : Cx}
/-! ### an own list + a list; a new list + a list -/
def dCatO (i : Nat) (de : DE) : DL := fun ρ cs Ed Q => match ρ[i]? with
  | some (.c j) => de ρ cs Ed fun x cs1 => match x with
    | .list es => ∃ ds, cs1[j]? = some ds ∧ ds.length + es.length ≤ sizeLine ∧ Q (ds ++ es) cs1
    | _ => False
  | _ => False
theorem q_catO {o e : Expr} {pos : Pos} {de : DE} (i : Nat) (ho : PE X o (tVar i)) (hb : QE X E e de) : QN X E (.BinOp o .Add e pos) (dCatO i de) := by
  obtain ⟨tb, b1, b2⟩ := hb.ex
  refine ⟨_, pe_op op_catF ho b1, fun as σ H ρ cs Ed Qd Q w ev ek h k => ?_⟩
  unfold dCatO at h
  cases q : ρ[i]? with
  | none => rw [q] at h; exact h.elim
  | some s =>
    rw [q] at h
    obtain ⟨o, hoo, hss⟩ := pr_get ev q
    cases s with
    | c j =>
      obtain ⟨a, g1, rfl⟩ := hss
      refine ⟨_, hoo, b2 as σ H ρ cs Ed _ _ w ev ek h fun v H1 x cs1 e1 w1 d1 h1 => ?_⟩
      cases d1 <;> try exact h1.elim
      rename_i b zs es gb gz
      obtain ⟨ds, g2, g3, g4⟩ := h1
      obtain ⟨xs, g6, g7⟩ := w1.lst g1 g2
      exact ⟨a, b, xs, zs, rfl, rfl, SqL.of g6, SqL.of (hid1 gb), by rw [g7.len, gz.len]; exact g3, fun p hp => k p _ _ cs1 (e1.trans (Ext.of (Same.new hp))) (e1.dm p hp) (w1.newc hp ((g7.app gz).mono (new_cons hp))) g4⟩
    | _ => exact h.elim
def dCatN (dl : DL) (de : DE) : DL := fun ρ cs Ed Q => dl ρ cs Ed fun ds cs1 => de (ρ.map (shSl 1)) (ds :: cs1) (fun C cs' => Ed C (cs'.drop 1)) fun x cs2 => match cs2, x with
  | ds' :: cs3, .list es => ds'.length + es.length ≤ sizeLine ∧ Q (ds' ++ es) cs3
  | _, _ => False
theorem q_catN {a e : Expr} {pos : Pos} {dl : DL} {de : DE} (ha : QN X E a dl) (hb : QE X E e de) : QN X E (.BinOp a .Add e pos) (dCatN dl de) := by
  obtain ⟨ta, a1, a2⟩ := ha.ex
  obtain ⟨tb, b1, b2⟩ := hb.ex
  refine ⟨_, pe_op op_catF a1 b1, fun as σ H ρ cs Ed Qd Q w ev ek h k => a2 as σ H ρ cs Ed _ _ w ev ek h fun p H1 ds cs1 e1 hp w1 h1 => ?_⟩
  have hf1 : ∀ {H' : Hp}, Nw H H' [cl p] := Nw.lst hp
  refine b2 (cl p :: as) σ H1 _ _ _ _ _ w1 (Ev.sh hf1 ev e1) (fun C H2 cs2 e2 w2 q => ek C H2 _ (e1.cut (ex := [cl p]) hf1 e2) (Wk.drop (ex := [cl p]) w2) q) h1 fun v H2 x cs2 e2 w2 d2 h2 => ?_
  cases cs2 with
  | nil => exact h2.elim
  | cons ds' cs3 =>
    cases d2 <;> try exact h2.elim
    rename_i b zs es gb gz
    obtain ⟨g3, g4⟩ := h2
    obtain ⟨xs, g6, g7⟩ := w2.lst (j := 0) rfl rfl
    have e3 : Ext as H H2 := e1.cut (ex := [cl p]) hf1 e2
    exact ⟨p, b, xs, zs, rfl, rfl, SqL.of g6, SqL.of (hid1 gb), by rw [g7.len, gz.len]; exact g3, fun r hr => k r _ _ cs3 (e3.trans (Ext.of (Same.new hr))) (e3.dm r hr) ((Wk.drop (ex := [cl p]) w2).newc hr (((g7.app gz).mono hid_cons).mono (new_cons hr))) g4⟩
end
end Kp

namespace Kp
open PySem PySem.Spec PyProof.Rows L2
section
variable {K : Frag} {E : XK} {X : Cx}
/-! ### xs.count(number) -/
def dCntI (i : Nat) (de : DE) : DE := fun ρ cs Ed Q => ∃ ns : List Int, ρ[i]? = some (.d (.list (ns.map .int))) ∧ de ρ cs Ed fun y cs1 => match y with
  | .int k => Q (.int (ns.count k : Nat)) cs1
  | _ => False
theorem q_cntI {o e : Expr} {apos cpos : Pos} {de : DE} (i : Nat) (ho : PE X o (tVar i)) (hv : QE X E e de) (hbase : attributeBase o "count" X.env (eval o X.env) = eval o X.env := by rfl)
    (hfew : ((backTo cpos (starEach [e] X.env)).all (fun x => !x.1) && (backToKw cpos (keywordEach [] X.env)).all (fun x => x.1.isSome) && decide (([e] : List Expr).length + ([] : List Keyword).length + (if ([] : List Keyword).isEmpty then 0 else 1) < 30)) = true := by rfl)
    (hline : (apos.endLine == cpos.line) = true := by rfl) (hs : starEach [e] X.env = (false, eval e X.env) :: starEach [] X.env := by rfl) (hplain : (backTo cpos (starEach [] X.env)).any (·.1) = false := by rfl) :
    QE X E (.Call (.Attribute o "count" apos) [e] [] cpos) (dCntI i de) := by
  obtain ⟨tv, v1, v2⟩ := hv.ex
  refine ⟨_, pe_bm PySem.F.plainAttrs_list PySem.F.slot_list_count PySem.F.type_list_count mt_lcount ho (pa_cons v1 pa_nil hs) hbase hfew hline hs hplain, fun as σ H ρ cs Ed Qd Q w ev ek h k => ?_⟩
  obtain ⟨ns, h1, h2⟩ := h
  obtain ⟨a, g1, g2⟩ := slot_ints w ev h1
  refine ⟨_, g1, .inl ⟨rfl, _, g2 H Ext.refl⟩, v2 as σ H ρ cs Ed _ _ w ev ek h2 fun v H1 x cs1 e1 w1 d1 h3 => ?_⟩
  cases d1 <;> try exact h3.elim
  exact ⟨a, ns, _, rfl, rfl, g2 H1 e1, k _ H1 _ cs1 e1 w1 (.int _) h3⟩
end
end Kp

namespace Kp
open PySem PySem.Spec PyProof.Rows L2
section
variable {X : Cx} {E : XK}
/-! ### list(range(n)): a new list of one's own -/
theorem dq_nats {K : Frag} {G : Hp} : ∀ xs : List Nat, DqAll K G (xs.map fun i : Nat => V.int (0 + (i : Int))) (xs.map fun i : Nat => PyData.int (i : Int))
  | [] => .nil
  | i :: r => .cons (by show Dq K G (V.int (0 + (i : Int))) (.int (i : Int)); rw [Int.zero_add]; exact .int _) (dq_nats r)
def dNlR (da : DE) : DL := fun ρ cs Ed Q => da ρ cs Ed fun x cs1 => match x with
  | .int n => (0 ≤ n ∧ n ≤ 16777216) ∧ Q ((List.range n.toNat).map fun i : Nat => PyData.int (i : Int)) cs1
  | _ => False
theorem q_nlistR {a : Expr} {p p2 p3 pos : Pos} {da : DE} (hc : X.calm = true) (ha : QE X E a da) (hm : X.mg "list" = none) (hm2 : X.mg "range" = none) (hg : Gl X "list" := by rfl) (hg2 : Gl X "range" := by rfl)
    (hs : starEach [a] X.env = (false, eval a X.env) :: starEach [] X.env := by rfl)
    (he : starEach [.Call (.Name "range" p2) [a] [] p3] X.env = (false, eval (.Call (.Name "range" p2) [a] [] p3) X.env) :: starEach [] X.env := by rfl) : QN X E (.Call (.Name "list" p) [.Call (.Name "range" p2) [a] [] p3] [] pos) (dNlR da) := by
  obtain ⟨ta, a1, a2⟩ := ha.ex
  refine ⟨_, pe_listRg hc hg hm (prg_1 hg2 hm2 a1 hs) he, fun as σ H ρ cs Ed Qd Q w e ek h k => a2 as σ H ρ cs Ed _ _ w e ek h fun v H1 x cs1 e1 w1 d1 h1 => ?_⟩
  cases d1 with
  | int n =>
    obtain ⟨⟨g1, g2⟩, g3⟩ := h1
    have er : rgV 0 n = (List.range n.toNat).map fun i : Nat => V.int (0 + (i : Int)) := by unfold rgV; rw [Int.sub_zero]
    refine ⟨n, rfl, RgOk.of_le (Int.le_refl _) g2 (by decide) g1, fun q hq => ?_⟩
    rw [er]
    exact k q _ _ cs1 (e1.trans (Ext.of (Same.new hq))) (fresh_of w1 e1 hq) (w1.newc hq ((dq_nats _).mono (new_cons hq))) g3
  | _ => exact h1.elim
end
end Kp

namespace Kp
open PySem PySem.Spec PyProof.Rows L2
/-! ### zip of a list and a tuple: the kit's zip over iterators of any kind, as a walk -/
def ItzM (K : PySem.W.Frag) (a b : Addr) : It where
  go i H := ∃ (xs ys : List V) (x y : V), (SqL K H a xs ∧ xs[i]? = some x) ∧ SqT K H b ys ∧ ys[i]? = some y
  yld i H v H' := ∃ T x y, (v = .ref T ∧ H T = none ∧ H' = upd H T (.tup [x, y])) ∧ (∀ xs, SqL K H a xs → xs[i]? = some x) ∧ ∀ ys, SqT K H b ys → ys[i]? = some y
  stop i H := ∃ xs ys : List V, (SqL K H a xs ∧ SqT K H b ys) ∧ i = min xs.length ys.length
theorem five {c z TI TO i1 i2 : Addr} (h : c ∈ [z, TI, TO, i1, i2]) : c = z ∨ c = TI ∨ c = TO ∨ c = i1 ∨ c = i2 := by simpa using h
theorem not5 {c z TI TO i1 i2 : Addr} (h : ¬ c ∈ [z, TI, TO, i1, i2]) : c ≠ z ∧ c ≠ TI ∧ c ≠ TO ∧ c ≠ i1 ∧ c ≠ i2 := by
  simp only [List.mem_cons, List.not_mem_nil, or_false, not_or] at h
  exact h
def stM (a b z TI TO i1 i2 : Addr) (i : Nat) (h : Heap) : Prop := (IsZip h z TI TO .none ∧ IsTupOf2 h TI (.ref i1) (.ref i2)) ∧ (∃ x y, IsTupOf2 h TO x y) ∧ h.IsListIter i1 a i ∧ h.IsTupleIter i2 b i
theorem turn_zipM {P : Program} {w : World} {K : PySem.W.Frag} {elts : List Expr} {kk : Nat} {tpos : Pos} {a b z TI TO i1 i2 : Addr} (S : ZipSep2 z TI TO i1 i2 [i1, a] [i2, b]) (na : a ≠ i1) (nb : b ≠ i2) :
    Turn P w K (.Tuple elts kk tpos) (ItzM K a b) [z, TI, TO, i1, i2] z (stM a b z TI TO i1 i2) where
  mem := List.mem_cons_self
  obj i h st c hc := by
    obtain ⟨⟨g1, g2⟩, ⟨x, y, g3⟩, ⟨o1, e1, _, d1⟩, ⟨o2, e2, _, d2⟩⟩ := st
    rcases five hc with rfl | rfl | rfl | rfl | rfl
    · exact ⟨_, g1, nofun⟩
    · exact ⟨_, g2, nofun⟩
    · exact ⟨_, g3, nofun⟩
    · exact ⟨_, e1, fun v q => by rw [d1] at q; cases q⟩
    · exact ⟨_, e2, fun v q => by rw [d2] at q; cases q⟩
  keep i h h' st k := by
    obtain ⟨⟨g1, g2⟩, ⟨x, y, g3⟩, g4, g5⟩ := st
    refine ⟨⟨k _ (by simp) _ g1, k _ (by simp) _ g2⟩, ⟨x, y, k _ (by simp) _ g3⟩, g4.at fun o => k _ (by simp) o, g5.at fun o => k _ (by simp) o⟩
  item := by
    rintro X rfl rfl rfl hK i pins s σ H E I hf ⟨⟨g1, g2⟩, ⟨x0, y0, g3⟩, g4, g5⟩ ⟨xs, ys, x, y, ⟨hx, ex⟩, hy, ey⟩
    obtain ⟨us, rx, px, -⟩ := I.list hx
    obtain ⟨vs, ry, py, -⟩ := I.tuple hy
    obtain ⟨u, eu, ru⟩ := rx.get ex
    obtain ⟨v, ev, rv⟩ := ry.get ey
    have lu : i < us.toArray.size := by
      have := (List.getElem?_eq_some_iff.mp eu).1
      simpa using this
    have lv : i < vs.toArray.size := by
      have := (List.getElem?_eq_some_iff.mp ev).1
      simpa using this
    have hh : X.A.in1.handled = none := I.ok.hd hK
    have lz : z < s.heap.objs.size := Heap.lt_size g1
    refine wpAny_pyNext_zipD2_item S (Draws.list hh i1 a na us.toArray) (Draws.tuple hh i2 b nb vs.toArray) g1 g2 g3 ⟨g4, px.isList⟩ ⟨g5, py⟩ lu lv fun w1 w2 h1 tk q1 q2 z1 t1 k1 k2 n1 sz keep => ?_
    have eq1 : w1 = u := by
      have q1 : us.toArray[i]? = some w1 := q1
      rw [List.getElem?_toArray, eu] at q1
      exact (Option.some.inj q1).symm
    have eq2 : w2 = v := by
      have q2 : vs.toArray[i]? = some w2 := q2
      rw [List.getElem?_toArray, ev] at q2
      exact (Option.some.inj q2).symm
    subst eq1 eq2
    refine ⟨_, rfl, wpAny_letOwnedTupleGo_zip (s := { s with heap := h1, toks := tk }) z1 fun h2 z2 sb => ?_⟩
    have n2 : h2.get? s.heap.objs.size = some { cls := .type "tuple", data := .seq #[w1, w2] } := (sb.2 _ (Nat.ne_of_gt lz)).trans n1
    have ok : ObjOk X.prog X.w (upd H s.heap.objs.size (.tup [x, y])) h2 s.heap.objs.size (.tup [x, y]) := ⟨by show 2 ≤ sizeLine; decide, [w1, w2], .cons ru (.cons rv .nil), ⟨_, n2, rfl, _, rfl⟩⟩
    have kp : ∀ c o, ¬ c ∈ [z, TI, TO, i1, i2] → s.heap.get? c = some o → h2.get? c = some o := fun c o nc q => by
      obtain ⟨c1, c2, c3, c4, c5⟩ := not5 nc
      exact (sb.2 c c1).trans (keep c o c1 c3 c4 c5 q)
    refine ⟨.ref s.heap.objs.size, _, I.turnedNew (t' := tk) kp hf (Nat.le_refl _) ok, rfl, ⟨_, x, y, ⟨rfl, I.hok.fresh (Nat.le_refl _), rfl⟩, fun l hl => ?_, fun l hl => ?_⟩, ⟨⟨z2, ?_⟩, ⟨w1, w2, ?_⟩, ?_, ?_⟩, fun c hc => ?_⟩
    · have := I.list_inj hl hx
      rw [this]; exact ex
    · have := I.tuple_inj hl hy
      rw [this]; exact ey
    · exact (sb.2 _ S.TIz).trans (keep _ _ S.TIz S.TITO S.TIi1 S.TIi2 g2)
    · exact (sb.2 _ S.TOz).trans t1
    · exact k1.1.at fun o => (sb.2 _ S.zi1.symm).trans
    · exact k2.1.at fun o => (sb.2 _ S.zi2.symm).trans
    · have lt : c < s.heap.objs.size := by
        obtain ⟨_, b1, _⟩ := g4
        obtain ⟨_, b2, _⟩ := g5
        rcases five hc with rfl | rfl | rfl | rfl | rfl
        · exact lz
        · exact Heap.lt_size g2
        · exact Heap.lt_size g3
        · exact Heap.lt_size b1
        · exact Heap.lt_size b2
      show upd H _ _ c = none
      rw [upd_ne (Nat.ne_of_lt lt)]
      exact (hf c hc).1
  done := by
    rintro X rfl rfl rfl hK i pins s σ H E I hf ⟨⟨g1, g2⟩, ⟨x0, y0, g3⟩, g4, g5⟩ ⟨xs, ys, ⟨hx, hy⟩, hi⟩
    obtain ⟨us, rx, px, -⟩ := I.list hx
    obtain ⟨vs, ry, py, -⟩ := I.tuple hy
    have hh : X.A.in1.handled = none := I.ok.hd hK
    have l1 : us.toArray.size = xs.length := by have := rx.length; simp; omega
    have l2 : vs.toArray.size = ys.length := by have := ry.length; simp; omega
    refine wpAny_pyNext_zipD2_end S (Draws.list hh i1 a na us.toArray) (Draws.tuple hh i2 b nb vs.toArray) g1 g2 g3 ⟨g4, px.isList⟩ ⟨g5, py⟩ (by omega) (by omega) (by omega) fun h1 tk keep => ⟨rfl, I.turnedL (t' := tk) (fun c o nc q => ?_) hf⟩
    obtain ⟨c1, c2, c3, c4, c5⟩ := not5 nc
    exact keep c o c1 c3 c4 c5 q
  self A i s Q E st h := wpAny_pyIter_zip st.1.1 h
theorem five_new {X : Cx} {pins : List (Addr × Obj)} {σ : L2.St} {H : Hp} {s : Shared} (I : L2.Inv X pins σ H s) : ∀ c, c ∈ [s.heap.objs.size + 4, s.heap.objs.size + 2, s.heap.objs.size + 3, s.heap.objs.size, s.heap.objs.size + 1] → FpOk X pins H c := fun c hc => by
  have le : s.heap.objs.size ≤ c := by rcases five hc with rfl | rfl | rfl | rfl | rfl <;> omega
  exact I.fpOk le (I.hok.fresh le)
def tZipM (K : PySem.W.Frag) (ta : TA) : TI := fun σ H R => ta σ H fun vs H1 => ∃ a b xs ys, (vs = [.ref a, .ref b] ∧ SqL K H1 a xs) ∧ SqT K H1 b ys ∧ R (ItzM K a b) H1
theorem pi_zipM {X : Cx} {e e2 : Expr} {ta : TA} {p pos tpos : Pos} {elts : List Expr} {kk : Nat} (hg : Gl X "zip") (hm : X.mg "zip" = none) (ha : PA X [e, e2] ta)
    (h1 : starEach [e, e2] X.env = (false, eval e X.env) :: starEach [e2] X.env) (h2 : (backTo pos (starEach [e2] X.env)).any (·.1) = false) :
    PI X (.Tuple elts kk tpos) (.Call (.Name "zip" p) [e, e2] [] pos) (tZipM X.K ta) where
  run pins s σ H R I h := by
    refine Call_ (ld_blt I hg hm boot_zip (callWith_type1 (thn (ha.run pos pins s σ H _ I h) ?_) h1 h2))
    rintro us s1 ⟨vs, H1, I1, r1, a, b, xs, ys, ⟨rfl, hx⟩, hy, q⟩
    obtain ⟨ux, rx, px, -⟩ := I1.list hx
    obtain ⟨uy, ry, py, -⟩ := I1.tuple hy
    obtain ⟨ob, eb, -⟩ := id py
    rcases r1 with _ | ⟨ra, _ | ⟨rb, _ | _⟩⟩
    cases ra
    cases rb
    refine zip_begins2 (begins_list _ _) (begins_tuple _ _) px.isList py fun h' z1 t1 t2 i1 i2 sz keep => wpAny_pyIter_zip z1 ?_
    exact ⟨_, _, _, _, H1, rfl, I1.kept (t' := s1.toks) keep, turn_zipM (zip_sep2 (fp1 := [a]) (fp2 := [b]) (by simpa using px.lt) (by simpa using Heap.lt_size eb)) (Nat.ne_of_lt px.lt) (Nat.ne_of_lt (Nat.lt_succ_of_lt (Heap.lt_size eb))), ⟨⟨z1, t1⟩, ⟨_, _, t2⟩, ⟨_, i1, rfl, rfl⟩, ⟨_, i2, rfl, rfl⟩⟩, five_new I1, q⟩
section
variable {K : Frag} {X : Cx} {E : XK}
theorem itv_zm {as : List CA} {H : Hp} {a b : Addr} {xs ys : List V} {ds es : List PyData} (h1 : hid H as a = some (.lst xs)) (d1 : DqAll K (hid H as) xs ds) (h2 : SqT K (hid H as) b ys) (d2 : DqAll K (hid H as) ys es) : ItV K as H (ItzM K a b) (min ds.length es.length) (prZ ds es) := fun ex H' cs' fD e w => by
  have g1 : SqL K H' a xs := SqL.of (hid1 (e.hid _ _ h1))
  have g2 : SqT K H' b ys := hidT (same_t e.hid h2)
  have j1 := d1.mono (same_sh fD e)
  have j2 := d2.mono (same_sh fD e)
  have l1 := d1.len
  have l2 := d2.len
  refine ⟨fun i hi => ⟨?_, ?_⟩, xs, ys, ⟨g1, g2⟩, by omega⟩
  · exact ⟨xs, ys, xs[i]'(by omega), ys[i]'(by omega), ⟨g1, List.getElem?_eq_getElem _⟩, g2, List.getElem?_eq_getElem _⟩
  · rintro x H3 ⟨T, y, z, ⟨rfl, hT, rfl⟩, hy, hz⟩
    exact pz_new w hT (hy xs g1) j1 (hz ys g2) j2
/-- zip of a list and a tuple -/
def iZipM (da db : DE) : DI := fun ρ cs Ed Q => da ρ cs Ed fun x cs1 => db ρ cs1 Ed fun y cs2 => match x, y with
  | .list ds, .tuple es => Q (min ds.length es.length) (prZ ds es) cs2
  | _, _ => False
theorem qiv_zipM {e e2 : Expr} {elts : List Expr} {kk : Nat} {tpos p pos : Pos} {da db : DE} (ha : QE X E e da) (hb : QE X E e2 db) (hm : X.mg "zip" = none) (hg : Gl X "zip" := by rfl) (h1 : starEach [e, e2] X.env = (false, eval e X.env) :: starEach [e2] X.env := by rfl) (h0 : starEach [e2] X.env = (false, eval e2 X.env) :: starEach [] X.env := by rfl)
    (h2 : (backTo pos (starEach [e2] X.env)).any (·.1) = false := by rfl) : QIV X E (.Tuple elts kk tpos) (.Call (.Name "zip" p) [e, e2] [] pos) (iZipM da db) := by
  obtain ⟨ta, a1, a2⟩ := ha.ex
  obtain ⟨tb, b1, b2⟩ := hb.ex
  refine ⟨_, pi_zipM hg hm (pa_cons a1 (pa_cons b1 pa_nil h0) h1) h1 h2, fun as σ H ρ cs Ed Qd R w ev ek h k => a2 as σ H ρ cs Ed _ _ w ev ek h fun v H1 x cs1 e1 w1 d1 g1 => b2 as σ H1 ρ cs1 Ed _ _ w1 (ev.ext e1) (ek.ext e1) g1 fun u H2 y cs2 e2 w2 d2 g2 => ?_⟩
  have d3 := d1.mono e2.hid
  cases d3 with
  | lst g3 g4 =>
    cases d2 with
    | tup g5 g6 => exact ⟨_, _, _, _, ⟨rfl, SqL.of (hid1 g3)⟩, hidT g5, k _ H2 _ _ cs2 (e1.trans e2) w2 (itv_zm g3 g4 g5 g6) g2⟩
    | _ => exact g2.elim
  | _ => exact g2.elim
end
end Kp

namespace Kp
open PySem PySem.Spec PyProof.Rows L2
section
variable {X : Cx} {E : XK} {K : Frag}
/-! ### [.. for x in xs], xs an own list that is left alone -/
def dLcC (v i : Nat) (dt : DT) (de : DE) : DL := fun ρ cs Ed Q => ∃ (j : Nat) (ds : List PyData), ρ[v]? = some (.c j) ∧ cs[j]? = some ds ∧ ∃ Inv : Nat → List PyData → CS → Prop, (∀ t acc cs, Inv t acc cs → cs[j]? = some ds) ∧ Inv 0 [] cs ∧
  (∀ t acc cs, t < ds.length → Inv t acc cs → dt ((ρ.map (shSl 1)).set i (.d (nth ds t))) (acc :: cs) X0 fun b cs2 => if b = true
    then de ((ρ.map (shSl 1)).set i (.d (nth ds t))) cs2 X0 fun y cs3 => match cs3 with
      | acc' :: cs' => acc'.length < sizeLine ∧ Inv (t + 1) (acc' ++ [y]) cs'
      | [] => False
    else match cs2 with
      | acc' :: cs' => Inv (t + 1) acc' cs'
      | [] => False) ∧
  ∀ acc cs, Inv ds.length acc cs → Q acc cs
def iLst (K : Frag) (tl : TE) : TI := fun σ H R => tl σ H fun x H1 => ∃ a, x = .ref a ∧ (∃ xs, SqL K H1 a xs) ∧ R (Itl K a) H1
theorem lc_coreC {v i : Nat} {tt : TT} {te : TE} {dt : DT} {de : DE} (t2 : ST K E0 tt dt) (e2 : SE K E0 te de) : SN K E (tLc (iLst K (tVar v)) (gName i) tt te [i]) (dLcC v i dt de) := fun as σ H ρ cs Ed Qd Q w ev ek h k => by
  obtain ⟨j, ds, h1, h2, Inv, hv, h0, hs, hd⟩ := h
  obtain ⟨u, hv1, hv2⟩ := pr_get ev h1
  obtain ⟨a, ha, rfl⟩ := hv2
  obtain ⟨xs0, hx0, -⟩ := w.lst ha h2
  refine ⟨_, hv1, a, rfl, ⟨xs0, SqL.of hx0⟩, fun D hD => ?_⟩
  have w0 : Wk K (upd H D (.lst [])) (cl D :: as) ([] :: cs) := w.newc hD .nil
  have e0 : ∀ {H'}, Ext (cl D :: as) (upd H D (.lst [])) H' → Ext as H H' := fun {H'} q => Ext.cut (ex := [cl D]) (Nw.lst hD) (Ext.of (Same.new hD)) q
  refine ⟨fun t m H' => m = ds.length - t ∧ t ≤ ds.length ∧ ∃ acc cs', Ext (cl D :: as) (upd H D (.lst [])) H' ∧ Wk K H' (cl D :: as) (acc :: cs') ∧ Inv t acc cs', ⟨ds.length, by simp, Nat.zero_le _, [], cs, Ext.refl, w0, h0⟩, ?_⟩
  rintro t m H2 ⟨rfl, ht, acc, cs2, x2, w2, q2⟩
  have fD : ∀ {H' : Hp}, Nw H H' [cl D] := Nw.lst hD
  obtain ⟨xs, hx, qd⟩ := w2.lst (j := j + 1) (show (cl D :: as)[j + 1]? = _ from ha) (show (acc :: cs2)[j + 1]? = _ from hv t acc cs2 q2)
  have hlen := qd.len
  by_cases hlt : t < ds.length
  · have hxt : t < xs.length := by omega
    refine .inr ⟨⟨xs, xs[t], SqL.of hx, List.getElem?_eq_getElem hxt⟩, fun H' => ∃ acc cs', Ext (cl D :: as) (upd H D (.lst [])) H' ∧ Wk K H' (cl D :: as) (acc :: cs') ∧ Inv (t + 1) acc cs', fun H' q => ⟨ds.length - (t + 1), by omega, rfl, hlt, q⟩, fun x H3 y => ?_⟩
    obtain ⟨rfl, hz⟩ := y
    obtain ⟨dz, k1, k2⟩ := qd.get' (hz xs (SqL.of hx))
    have en : nth ds t = dz := by unfold nth; rw [List.getD_eq_getElem?_getD, k1]; rfl
    rw [← en] at k2
    refine ⟨wipe1, ?_⟩
    have evs : Ev K H3 (cl D :: as) σ (ρ.map (shSl 1)) := Ev.sh (ex := [cl D]) fD ev (e0 x2)
    have ev3 : Ev K H3 (cl D :: as) ((wipe σ [i]).set i (some x)) ((ρ.map (shSl 1)).set i (.d (nth ds t))) := by
      have q := ev_set (s := .d (nth ds t)) (v := x) evs i ⟨x, rfl, k2⟩
      show Ev K H3 (cl D :: as) ((σ.set i none).set i (some x)) _
      rw [List.set_set]
      exact q
    refine t2 (cl D :: as) _ H3 _ (acc :: cs2) X0 _ _ w2 ev3 ek0 (hs t acc cs2 hlt q2) fun b H4 cs4 e4 w4 h4 => ?_
    cases b with
    | true =>
      refine iteT (e2 (cl D :: as) _ H4 _ cs4 X0 _ _ w4 (ev3.ext e4) ek0 (show de _ cs4 X0 _ by simpa using h4) fun y' H5 yd cs5 e5 w5 d5 h5 => ?_)
      obtain ⟨acc5, cs5', xs5, rfl, g1, g2⟩ := w5.head
      obtain ⟨h6, h7⟩ := h5
      refine ⟨xs5, g1, by rw [g2.len]; exact h6, _, _, ((x2.trans e4).trans e5).trans (ext_upd w5 (j := 0) rfl), ?_, h7⟩
      exact w5.put (j := 0) rfl (g2.app (.one d5))
    | false =>
      obtain ⟨acc5, cs5', xs5, rfl, g1, g2⟩ := w4.head
      exact iteF ⟨_, _, x2.trans e4, w4, by simpa using h4⟩
  · have e : t = ds.length := by omega
    subst e
    refine .inl ⟨⟨xs, SqL.of hx, by omega⟩, k D H2 acc cs2 (e0 x2) (fresh_of w Ext.refl hD) w2 (hd acc cs2 q2)⟩
theorem q_lcC {elt tg o : Expr} {scope : Scope} {pos : Pos} {de : DE} {x : Str} (v i : Nat) (hc : X.calm = true) (hN : X.N.Nodup) (ho : PE X o (tVar v)) (ok : BlkOk X.N X.env.scope scope [(x, i)])
    (hg : ∀ (s : Shared) (H : Hp) (C : Addr) (cl : List (Str × Addr)) (fp : List Addr), PG (X.blk s H scope (compEnvC scope cl C X.env) fp) tg (gName i))
    (he : ∀ (s : Shared) (H : Hp) (C : Addr) (cl : List (Str × Addr)) (fp : List Addr), QE (X.blk s H scope (compEnvC scope cl C X.env) fp) E0 elt de)
    (hs : ∀ x, foldedSetIterable o X.env x = pure x := by intro _; rfl) : QN X E (.ListComp elt [⟨tg, o, [], 0⟩] scope pos) (dLcC v i dYes de) :=
  ⟨_, pe_lc (own := [(x, i)]) (g := gName i) (tt := tYes) (te := tOfE X.K E0 de) hc hN (pi_list ho) ok hg (fun _ _ _ _ _ => pts_nil) (fun s H C cl fp => (he s H C cl fp).can) hs, lc_coreC st_yes' se_can⟩
theorem q_setLcC {elt tg o : Expr} {scope : Scope} {pos py spos : Pos} {de : DE} {x y : Str} (v i j : Nat) (hc : X.calm = true) (hN : X.N.Nodup) (ho : PE X o (tVar v)) (ok : BlkOk X.N X.env.scope scope [(x, j)])
    (hg : ∀ (s : Shared) (H : Hp) (C : Addr) (cl : List (Str × Addr)) (fp : List Addr), PG (X.blk s H scope (compEnvC scope cl C X.env) fp) tg (gName j))
    (he : ∀ (s : Shared) (H : Hp) (C : Addr) (cl : List (Str × Addr)) (fp : List Addr), QE (X.blk s H scope (compEnvC scope cl C X.env) fp) E0 elt de)
    (hy : X.N[i]? = some y := by rfl) (hyl : X.env.scope.names.lookup y = some .local := by rfl) (hsw : swapsWith (.ListComp elt [⟨tg, o, [], 0⟩] scope pos) (some (.Name y py)) spos.line X.env = pure true := by exact sw_true rfl rfl rfl (by decide +kernel))
    (hs : ∀ x, foldedSetIterable o X.env x = pure x := by intro _; rfl) : QS X E (.Assign [.Name y py] (.ListComp elt [⟨tg, o, [], 0⟩] scope pos) spos) (dSet i (dOfN (dLcC v j dYes de))) := by
  refine ⟨_, ps_setLc (own := [(x, j)]) (g := gName j) (tt := tYes) (te := tOfE X.K E0 de) hc hN hy hyl hsw (pi_list ho) ok hg (fun _ _ _ _ _ => pts_nil) (fun s H C cl fp => (he s H C cl fp).can) hs, fun as σ H ρ cs D Dd w ev ek h S => (lc_coreC st_yes' se_can) as σ H ρ cs Dd.ex _ _ w ev ek h fun p H1 ds cs1 e1 hp w1 h1 => ?_⟩
  obtain ⟨acc, cs2, xs, g0, g1, g2⟩ := w1.head
  cases g0
  exact S.nx [] _ H1 _ _ Nw.nil e1 (Wk.drop (ex := [cl p]) w1) (ev_set (s := .d (.list _)) (ev.ext e1) i ⟨_, rfl, .lst (by rw [hid_out (Wk.apart (ex := [cl p]) w1 (j := 0) (f := cl p) rfl)]; exact g1) (g2.mono hid_cons)⟩) h1
theorem q_newLcC {elt tg o : Expr} {scope : Scope} {pos py spos : Pos} {de : DE} {x y : Str} (v i j : Nat) (hc : X.calm = true) (hN : X.N.Nodup) (ho : PE X o (tVar v)) (ok : BlkOk X.N X.env.scope scope [(x, j)])
    (hg : ∀ (s : Shared) (H : Hp) (C : Addr) (cl : List (Str × Addr)) (fp : List Addr), PG (X.blk s H scope (compEnvC scope cl C X.env) fp) tg (gName j))
    (he : ∀ (s : Shared) (H : Hp) (C : Addr) (cl : List (Str × Addr)) (fp : List Addr), QE (X.blk s H scope (compEnvC scope cl C X.env) fp) E0 elt de)
    (hy : X.N[i]? = some y := by rfl) (hyl : X.env.scope.names.lookup y = some .local := by rfl) (hsw : swapsWith (.ListComp elt [⟨tg, o, [], 0⟩] scope pos) (some (.Name y py)) spos.line X.env = pure true := by exact sw_true rfl rfl rfl (by decide +kernel))
    (hs : ∀ x, foldedSetIterable o X.env x = pure x := by intro _; rfl) : QS X E (.Assign [.Name y py] (.ListComp elt [⟨tg, o, [], 0⟩] scope pos) spos) (dNew i (dLcC v j dYes de)) := by
  refine ⟨_, ps_setLc (own := [(x, j)]) (g := gName j) (tt := tYes) (te := tOfE X.K E0 de) hc hN hy hyl hsw (pi_list ho) ok hg (fun _ _ _ _ _ => pts_nil) (fun s H C cl fp => (he s H C cl fp).can) hs, fun as σ H ρ cs D Dd w ev ek h S => (lc_coreC st_yes' se_can) as σ H ρ cs Dd.ex _ _ w ev ek h fun p H1 ds cs1 e1 hp w1 h1 => ?_⟩
  have hf1 : ∀ {H' : Hp}, Nw H H' [cl p] := Nw.lst hp
  exact S.nx [cl p] _ H1 _ (ds :: cs1) hf1 e1 w1 (ev_set (s := .c 0) (Ev.sh hf1 ev e1) i ⟨p, rfl, rfl⟩) h1
end
end Kp

namespace Kp
open PySem PySem.Spec PyProof.Rows L2
section
variable {K : Frag} {E : XK} {X : Cx}
/-! ### some statements behind which what they made as cells is data -/
structure QB (X : Cx) (E : XK) (b : List Stmt) (d : DS) : Prop where
  ex : ∃ t, (∀ rest u, PSs X rest u → PSs X (b ++ rest) (tSeq t u)) ∧ SS X.K E t d
theorem qb_one {s : Stmt} {d : DS} (h : QS X E s d) : QB X E [s] d := by
  obtain ⟨t, a1, a2⟩ := h.ex
  exact ⟨t, fun rest u hu => pss_cons a1 hu, a2⟩
theorem qb_cons {s : Stmt} {b : List Stmt} {d1 d2 : DS} (h : QS X E s d1) (hb : QB X E b d2) : QB X E (s :: b) (dSeq d1 d2) := by
  obtain ⟨t, a1, a2⟩ := h.ex
  obtain ⟨u, b1, b2⟩ := hb.ex
  refine ⟨tSeq t u, fun rest w hw => ?_, ss_seq a2 b2⟩
  have q := pss_cons a1 (b1 rest w hw)
  exact q
def dRel (db dr : DS) : DS := fun Dd ρ cs => db { Dd with nx := fun k ρ' cs' => dr Dd (ρ'.map (disSl k cs')) (cs'.drop k) } ρ cs
theorem q_rel {b rest : List Stmt} {db dr : DS} (hb : QB X E b db) (hr : QSs X E rest dr) : QSs X E (b ++ rest) (dRel db dr) := by
  obtain ⟨t, a1, a2⟩ := hb.ex
  obtain ⟨u, b1, b2⟩ := hr.ex
  refine ⟨_, a1 rest u b1, fun as σ H ρ cs D Dd w ev ek h S => a2 as σ H ρ cs { D with nx := u D } { Dd with nx := fun k ρ' cs' => dr Dd (ρ'.map (disSl k cs')) (cs'.drop k) } w ev ek h ⟨fun ex σ' H' ρ' cs' hf e w' ev' q => ?_, S.bk, S.ct, S.rt, S.rf⟩⟩
  exact b2 as σ' H' _ _ D Dd w'.drop (ev'.diss w') (ek.ext e) q (S.ext w'.drop e)
theorem q_rel1 {s1 : Stmt} {rest : List Stmt} {d1 dr : DS} (h1 : QS X E s1 d1) (hr : QSs X E rest dr) : QSs X E (s1 :: rest) (dRel d1 dr) := q_rel (qb_one h1) hr
theorem q_rel2 {s1 s2 : Stmt} {rest : List Stmt} {d1 d2 dr : DS} (h1 : QS X E s1 d1) (h2 : QS X E s2 d2) (hr : QSs X E rest dr) : QSs X E (s1 :: s2 :: rest) (dRel (dSeq d1 d2) dr) := q_rel (qb_cons h1 (qb_one h2)) hr
theorem q_rel3 {s1 s2 s3 : Stmt} {rest : List Stmt} {d1 d2 d3 dr : DS} (h1 : QS X E s1 d1) (h2 : QS X E s2 d2) (h3 : QS X E s3 d3) (hr : QSs X E rest dr) : QSs X E (s1 :: s2 :: s3 :: rest) (dRel (dSeq d1 (dSeq d2 d3)) dr) := q_rel (qb_cons h1 (qb_cons h2 (qb_one h3))) hr
theorem q_rel4 {s1 s2 s3 s4 : Stmt} {rest : List Stmt} {d1 d2 d3 d4 dr : DS} (h1 : QS X E s1 d1) (h2 : QS X E s2 d2) (h3 : QS X E s3 d3) (h4 : QS X E s4 d4) (hr : QSs X E rest dr) : QSs X E (s1 :: s2 :: s3 :: s4 :: rest) (dRel (dSeq d1 (dSeq d2 (dSeq d3 d4))) dr) := q_rel (qb_cons h1 (qb_cons h2 (qb_cons h3 (qb_one h4)))) hr
/-- the cells stop here: k of them become data -/
theorem d_rel {db dr : DS} {Dd : DN} {ρ : List Sl} {cs : CS} (k : Nat) (Mid : List Sl → CS → Prop) (hB : ∀ Dd' : DN, Dd'.m = Dd.m → Dd'.rt = Dd.rt → (∀ ρ' cs', Mid ρ' cs' → Dd'.nx k ρ' cs') → db Dd' ρ cs) (hA : ∀ ρ' cs', Mid ρ' cs' → dr Dd (ρ'.map (disSl k cs')) (cs'.drop k)) : dRel db dr Dd ρ cs := hB _ rfl rfl hA
/-! ### [..] * n as a new own list -/
def dRepN (da de : DE) : DL := fun ρ cs Ed Q => da ρ cs Ed fun x cs1 => de ρ cs1 Ed fun y cs2 => match x, y with
  | .list xs, .int n => (-(2 ^ 63) ≤ n ∧ n < 2 ^ 63 ∧ xs.length * n.toNat ≤ sizeLine) ∧ Q (List.replicate n.toNat xs).flatten cs2
  | _, _ => False
theorem q_nrep {a e : Expr} {pos : Pos} {da de : DE} (ha : QE X E a da) (hb : QE X E e de) : QN X E (.BinOp a .Mult e pos) (dRepN da de) := by
  obtain ⟨ta, a1, a2⟩ := ha.ex
  obtain ⟨tb, b1, b2⟩ := hb.ex
  refine ⟨_, pe_op op_rep a1 b1, fun as σ H ρ cs Ed Qd Q w ev ek h k => a2 as σ H ρ cs Ed _ _ w ev ek h fun v H1 x cs1 e1 w1 d1 h1 => b2 as σ H1 ρ cs1 Ed _ _ w1 (ev.ext e1) (ek.ext e1) h1 fun u H2 y cs2 e2 w2 d2 h2 => ?_⟩
  have d1' := d1.mono e2.hid
  cases d1' with
  | lst g1 g2 =>
    cases d2 with
    | int n =>
      obtain ⟨⟨h1, h2, h3⟩, h4⟩ := h2
      exact ⟨_, _, _, rfl, rfl, hid1 g1, h1, h2, by rw [g2.len]; exact h3, fun p hp => k p _ _ cs2 ((e1.trans e2).trans (Ext.of (Same.new hp))) (((e1.trans e2).dm) p hp) (w2.newc hp ((g2.flat _).mono (new_cons hp))) h4⟩
    | _ => exact h2.elim
  | _ => exact h2.elim
end
end Kp

namespace Kp
open PySem PySem.Spec PyProof.Rows L2
/-! ### the root of any number below 10 ** 200; great products -/
theorem p200 : (10 : Nat) ^ 200 ≤ 2 ^ (4 * 200) := by
  rw [Nat.pow_mul]
  exact Nat.pow_le_pow_left (by decide) 200
theorem abs200 {i : Int} (h0 : -(10 : Int) ^ 200 < i) (h1 : i < 10 ^ 200) : i.natAbs < 2 ^ (4 * 200) := by
  refine Nat.lt_of_lt_of_le ?_ p200
  have e : (10 : Int) ^ 200 = ((10 ^ 200 : Nat) : Int) := by norm_cast
  omega
theorem log_200 {i : Int} (h0 : 0 ≤ i) (h1 : i < 10 ^ 200) : i.toNat.log2 < 4 * 200 := by
  have h := abs200 (i := i) (by omega) h1
  have e : i.toNat = i.natAbs := by omega
  rw [e]
  exact PySem.Flt.log2_lt_of (by decide) h
theorem mul200 {i j : Int} (h0 : 0 ≤ i) (h1 : i < 10 ^ 200) (k0 : 0 ≤ j) (k1 : j < 10 ^ 200) : CMulW i j := wide_mul (abs200 (by omega) h1) (abs200 (by omega) k1) (by decide) (by decide) (by decide)
section
variable {X : Cx} {E : XK} {K : Frag}
def rIsqX : List V → Hp → VK → Prop := fun xs H Q => ∃ i : Int, xs = [.int i] ∧ 0 ≤ i ∧ i < 10 ^ 200 ∧ Q (.int ((Float64.isqrt i.toNat : Nat) : Int)) H
theorem call_isqX : CallR X (.builtin "math.isqrt") rIsqX := by
  intro pins s σ H xs us Q I r h
  obtain ⟨i, rfl, h0, h1, q⟩ := h
  obtain ⟨u, rfl, t, rfl⟩ := vals1 r
  have l := log_200 h0 h1
  have g := (PySem.W.mg_run_isqrt i t (show ¬ i < 0 by omega) (show ¬ i.toNat.log2 > 200000 by omega) (show ¬ i.toNat.log2 / 30 + 1 > 450 by omega)).meets
  exact call_function_meets
    PySem.W.MGF.kind_isqrt
    PySem.W.MGF.plain_isqrt
    PySem.W.MGF.entry_isqrt
    (PySem.W.MGF.args_isqrt _)
    g ⟨.int _, H, I.tok _, ⟨_, rfl⟩, q⟩
def cIsqX : RC := fun ds Q => match ds with
  | [.int i] => (0 ≤ i ∧ i < 10 ^ 200) ∧ Q (.int ((Float64.isqrt i.toNat : Nat) : Int))
  | _ => False
theorem sc_isqX : SC K rIsqX cIsqX := fun as H cs vs ds Qd Q w d h k => by
  match ds, d with
  | [.int i], .cons (.int _) .nil => exact ⟨i, rfl, h.1.1, h.1.2, k _ H _ (Same.refl H) (.int _) h.2⟩
theorem q_isqX {e : Expr} {p pos : Pos} {da : DA} (hm : X.mg "isqrt" = some (.builtin "math.isqrt")) (ha : QA X E [e] da) (hg : Gl X "isqrt" := by rfl) (hdb : (("isqrt" : Str) == ("__debug__" : Str)) = false := by decide)
    (he : starEach [e] X.env = (false, eval e X.env) :: starEach [] X.env := by rfl) (hpl : (backTo pos (starEach [] X.env)).any (·.1) = false := by rfl) : QE X E (.Call (.Name "isqrt" p) [e] [] pos) (dCB cIsqX da) := by
  obtain ⟨ta, a1, a2⟩ := ha.ex
  refine ⟨_, ⟨fun pins s σ H Q I h => ?_⟩, se_cb sc_isqX a2⟩
  refine wpAny_Call_Name_kw (ld_glob I hg hm ?_ hdb)
  exact PyProof.Rows.callWith_builtin1 (thn (a1.run pos pins s σ H _ I h) fun us s1 ⟨vs, H1, I1, r1, q1⟩ => call_isqX pins s1 σ H1 vs us Q I1 r1 q1) he hpl
end
end Kp

namespace Kp
open PySem PySem.Spec PyProof.Rows L2
section
variable {X : Cx} {E : XK} {K : Frag} {W : WX}
/-! ### a def handed on as a value: `.fn nm` -/
def dConsF (nm : Str) (dr : DA) : DA := fun ρ cs Ed Q => dr ρ cs Ed fun ss cs2 => Q (.fn nm :: ss) cs2
theorem q_consF {nm : Str} {p : Pos} {es : List Expr} {dr : DA} (g : X.mg nm = some (.ref (He.ga X.K nm))) (hr : QA X E es dr) (hg : Gl X nm := by rfl) (hdb : (nm == ("__debug__" : Str)) = false := by decide)
    (hs : starEach (.Name nm p :: es) X.env = (false, eval (.Name nm p) X.env) :: starEach es X.env := by rfl) : QA X E (.Name nm p :: es) (dConsF nm dr) := by
  obtain ⟨tr, b1, b2⟩ := hr.ex
  refine ⟨_, pa_cons (pe_glob hg g (v := .ref (He.ga X.K nm)) rfl hdb) b1 hs, fun as σ H ρ cs Ed Qd Q w e ek h k => ?_⟩
  exact b2 as σ H ρ cs Ed _ _ w e ek h fun vs H2 ss cs2 e2 w2 d2 h2 => k _ H2 _ cs2 e2 w2 (.cons ⟨(show SlOk X.K H2 as (some (.ref (He.ga X.K nm))) (.fn nm) from rfl), fun z => by cases z⟩ d2) h2
/-- what is known of the defs that a name may hold -/
structure CalF (X : Cx) (A : Str → Option FD) : Prop where
  ex : ∀ nm f, A nm = some f → ∃ (k : Nat) (ps : List Str), Cal X.prog X.w X.K X.mg X.base k nm ps f ∧ Room k X.A ∧ X.mg nm = some (.ref (He.ga X.K nm))
def fnA (l : List (Str × FD)) : Str → Option FD := fun nm => l.lookup nm
theorem calF_nil : CalF X (fnA []) := ⟨fun _ _ h => by cases h⟩
theorem calF_cons {nm : Str} {f : FD} {l : List (Str × FD)} {k : Nat} {ps : List Str} (G : Cal X.prog X.w X.K X.mg X.base k nm ps f) (hr : Room k X.A) (g : X.mg nm = some (.ref (He.ga X.K nm))) (r : CalF X (fnA l)) : CalF X (fnA ((nm, f) :: l)) := ⟨fun nm' f' h => by
  have h' : ((nm, f) :: l).lookup nm' = some f' := h
  rw [List.lookup_cons] at h'
  cases q : nm' == nm with
  | true =>
    rw [q] at h'
    cases h'
    rw [eq_of_beq q]
    exact ⟨k, ps, G, hr, g⟩
  | false =>
    rw [q] at h'
    exact r.ex nm' f' h'⟩
def tCallF (K : Frag) (i : Nat) (A : Str → Option FD) (W : WX) (ta : TA) : TE := fun σ H Q => ∃ nm f, σ[i]? = some (some (.ref (He.ga K nm))) ∧ A nm = some f ∧ ta σ H fun vs H1 => spD K f vs H1 Q (WE W σ)
def dCallF (i : Nat) (A : Str → Option FD) (da : DA) : DE := fun ρ cs Ed Q => ∃ nm f, ρ[i]? = some (.fn nm) ∧ A nm = some f ∧ da ρ cs X0 fun ss cs1 => f ss cs1 Ed Q
theorem pe_callF {i : Nat} {A : Str → Option FD} {x : Str} {e : Expr} {es : List Expr} {p pos : Pos} {ta : TA} (F : CalF X A) (tk : Takes X W) (ha : PA X (e :: es) ta) (hN : X.N[i]? = some x) (hv : Vis X.env.scope x)
    (hdb : (x == ("__debug__" : Str)) = false) (hcd : (x == ("__classdict__" : Str)) = false) (he : starEach (e :: es) X.env = (false, eval e X.env) :: starEach es X.env) (hpl : (backTo pos (starEach es X.env)).any (·.1) = false) :
    PE X (.Call (.Name x p) (e :: es) [] pos) (tCallF X.K i A W ta) := by
  refine ⟨fun pins s σ H Q I h => ?_⟩
  obtain ⟨nm, f, hs, hA, ht⟩ := h
  obtain ⟨k, ps, ⟨a, fd, h1, h2, h3, h4⟩, hr, h5⟩ := F.ex nm f hA
  rw [h5] at h1
  cases h1
  refine wpAny_Call_Name_kw (thn ((pe_var (pos := p) hN hv hdb hcd).run pins s σ H (fun v H1 => v = .ref (He.ga X.K nm) ∧ H1 = H) I ⟨.ref (He.ga X.K nm), hs, rfl, rfl⟩) fun u s1 ⟨v, H1, I1, r1, q1⟩ => ?_)
  obtain ⟨rfl, rfl⟩ := q1
  cases r1
  refine PySem.W.callWith_K (h₀ := X.base) I.ok.mod.kin h2 (thn (ha.run pos pins s1 σ _ _ I1 ht) fun us s2 ⟨vs, H2, I2, r, q⟩ => ⟨I2.kIn, ?_⟩) he hpl
  exact run_fnSD h3 hr h4 .nil (passAt tk σ) I2 r (by rw [List.append_nil]; exact q)
theorem w_callF {i : Nat} {A : Str → Option FD} {x : Str} {e : Expr} {es : List Expr} {p pos : Pos} {da : DA} (F : CalF X A) (tk : Takes X W) (ha : QA X E0 (e :: es) da) (hN : X.N[i]? = some x := by rfl)
    (hv : Vis X.env.scope x := by first | exact Or.inl rfl | exact Or.inr (Or.inl rfl) | exact Or.inr (Or.inr rfl)) (hdb : (x == ("__debug__" : Str)) = false := by decide) (hcd : (x == ("__classdict__" : Str)) = false := by decide)
    (he : starEach (e :: es) X.env = (false, eval e X.env) :: starEach es X.env := by rfl) (hpl : (backTo pos (starEach es X.env)).any (·.1) = false := by rfl) : QEw X W (.Call (.Name x p) (e :: es) [] pos) (dCallF i A da) := by
  obtain ⟨ta, a1, a2⟩ := ha.ex
  refine ⟨_, pe_callF F tk a1 hN hv hdb hcd he hpl, fun as σ H ρ cs Ed Qd Q w ev ek h kk => ?_⟩
  obtain ⟨nm, f, hs, hA, h1⟩ := h
  obtain ⟨o, ho, hsl⟩ := pr_get ev hs
  have ho' : σ[i]? = some (some (.ref (He.ga X.K nm))) := by rw [ho]; exact congrArg some hsl
  exact ⟨nm, f, ho', hA, a2 as σ H ρ cs X0 _ _ w ev ekF h1 fun vs H1 ss cs1 e1 w1 d1 q1 => ⟨as, ss, cs1, Ed, Qd, w1, d1, ek.ext e1, q1, fun v H' x cs' e2 w2 d2 q2 => kk v H' x cs' (e1.trans e2) w2 d2 q2⟩⟩
/-! ### a caught error kept under another name; is it None -/
def dMvX (i j : Nat) : DS := fun Dd ρ cs => ∃ nm, ρ[j]? = some (.x nm) ∧ Dd.nx 0 (ρ.set i (.x nm)) cs
theorem q_mvX {e : Expr} {pos pos' : Pos} {x : Str} (i j : Nat) (hN : X.N.Nodup) (ha : PE X e (tVar j)) (hi : X.N[i]? = some x := by rfl) (hx : Loc X.env.scope x := by first | exact Or.inl rfl | exact Or.inr rfl) (hs : swapsWith e (some (.Name x pos')) pos.line X.env = pure false := by rfl)
    (hf : X.fn x = true ∨ X.env.scope.names.lookup x = some .local := by first | exact .inl rfl | exact .inr rfl) : QS X E (.Assign [.Name x pos'] e pos) (dMvX i j) := by
  refine ⟨_, ps_set hN hi hx ha hs hf, fun as σ H ρ cs D Dd w ev ek h S => ?_⟩
  obtain ⟨nm, hj, hn⟩ := h
  obtain ⟨o, ho, hsl⟩ := pr_get ev hj
  obtain ⟨a, oe, rfl, h2, h3⟩ := hsl
  exact ⟨_, ho, S.nx [] _ H _ cs Nw.nil Ext.refl w (ev_set (s := .x nm) ev i ⟨a, oe, rfl, h2, h3⟩) hn⟩
def dIsNX (i : Nat) : DT := fun ρ cs _ Q => match ρ[i]? with
  | some (.x _) => Q false cs
  | some (.d x) => Q (isNo x) cs
  | _ => False
theorem q_isNX {a : Expr} {j : Nat} {p2 pos : Pos} (i : Nat) (ha : PE X a (tVar i)) (hm : behindInMarks .Is (.Constant .none j p2) = false := by first | exact nomark _ | rfl) : QT X E (.Compare a [.Is] [.Constant .none j p2] pos) (dIsNX i) := by
  refine ⟨_, pt_cmpR op_isN ha pe_non hm, fun as σ H ρ cs Ed Qd Q w ev ek h k => ?_⟩
  unfold dIsNX at h
  cases q : ρ[i]? with
  | none => rw [q] at h; exact h.elim
  | some s =>
    rw [q] at h
    obtain ⟨o, ho, hs⟩ := pr_get ev q
    cases s with
    | x nm =>
      obtain ⟨a, oe, rfl, h2, h3⟩ := hs
      exact ⟨_, ho, rfl, _, rfl, k _ H cs Ext.refl w h⟩
    | d x =>
      obtain ⟨v, rfl, hv⟩ := hs
      exact ⟨_, ho, rfl, _, rfl, by rw [isNo_eq hv]; exact k _ H cs Ext.refl w h⟩
    | _ => exact h.elim
/-! ### bits -/
theorem sr_shr : SR K (rI (fun _ j => 0 ≤ j) fun i j => .int (i / 2 ^ j.toNat)) (dI (fun _ j => 0 ≤ j) fun i j => .int (i / 2 ^ j.toNat)) := sr_I fun _ _ _ => .int _
theorem sr_and : SR K (rI0 fun i j => .int (Builtin.bitAnd i j)) (dI0 fun i j => .int (Builtin.bitAnd i j)) := sr_I0 fun _ _ _ => .int _
end
end Kp

namespace Kp
open PySem PySem.Spec PyProof.Rows L2
/-! ### repr of a list whose things may hold {} or lists (not both in one) -/
def nolX (d : PyData) : Bool := nol d || !d.hasDict
section
variable {X : Cx} {pins : List (Addr × Obj)} {σ : L2.St} {H : Hp} {s : Shared}
mutual
theorem rdF (I : L2.Inv X pins σ H s) : ∀ (d : PyData) (v : V) (u : Value), Dq X.K H v d → L2.RelV v u → ∃ as, Reads s.heap u d as
  | .none, _, _, h, r => by cases h; cases r; exact ⟨_, Reads.none⟩
  | .bool b, _, _, h, r => by cases h; cases r; exact ⟨_, Reads.bool b⟩
  | .int i, _, _, h, r => by cases h; obtain ⟨t, rfl⟩ := r; exact ⟨_, Reads.int i t⟩
  | .str x, _, _, h, r => by cases h; obtain ⟨t, rfl⟩ := r; exact ⟨_, Reads.str x t⟩
  | .list ds, _, _, h, r => by
    cases h with
    | lst hs ha =>
      cases r
      obtain ⟨its, rv, ⟨o, n, ho, hc, _, hd⟩, _⟩ := I.list (SqL.of hs)
      obtain ⟨as, hr⟩ := rdFA I ds _ its ha rv
      exact ⟨_, Reads.list ho hc hd hr⟩
  | .dict kvs, _, _, h, r => by
    cases h with
    | emp h =>
      cases r
      obtain ⟨as, hr, _⟩ := emp_at I h
      exact ⟨as, hr⟩
  | .tuple ds, _, _, h, r => by
    cases h with
    | tup hs ha =>
      cases r
      obtain ⟨its, rv, ⟨o, ho, hc, n, hd⟩, _⟩ := I.tuple hs
      obtain ⟨as, hr⟩ := rdFA I ds _ its ha rv
      exact ⟨_, Reads.tuple ho hc hd hr⟩
theorem rdFA (I : L2.Inv X pins σ H s) : ∀ (ds : List PyData) (vs : List V) (us : List Value), DqAll X.K H vs ds → Vals vs us → ∃ as, ReadsAll s.heap us ds as
  | [], _, _, h, r => by cases h; cases r; exact ⟨_, ReadsAll.nil⟩
  | d :: ds, _, _, h, r => by
    cases h with
    | cons h1 h2 =>
      cases r with
      | cons r1 r2 =>
        obtain ⟨as, q1⟩ := rdF I d _ _ h1 r1
        obtain ⟨bs, q2⟩ := rdFA I ds _ _ h2 r2
        exact ⟨_, ReadsAll.cons q1 q2⟩
end
theorem oneK {prog : Program} {w : World} (I : L2.Inv X pins σ H s) {d : PyData} {v : V} {u : Value} (h : Dq X.K H v d) (r : L2.RelV v u) (hn : nolX d = true) (hs : d.showable = true) (hz : d.shown.length ≤ sizeLine) :
    ∃ bs, ReadAtMost s.heap d.depth bs ∧ ReprK prog w bs s.heap d.depth u d.shown := by
  obtain ⟨as, hr, hm⟩ : ∃ as, Reads s.heap u d as ∧ (d.hasDict = true → sysModules ∉ as) := by
    cases q : nol d with
    | true =>
      obtain ⟨as, hr, hm⟩ := rds I d v u h r q
      exact ⟨as, hr, fun _ => hm⟩
    | false =>
      obtain ⟨as, hr⟩ := rdF I d v u h r
      refine ⟨as, hr, fun z => ?_⟩
      unfold nolX at hn
      rw [q, z] at hn
      cases hn
  obtain ⟨bs, hb, hk⟩ := ReprAllK.of_readsAll (prog := prog) (w := w) (ReadsAll.cons hr .nil) (by simp [PyData.showableAll, hs]) (fun z y => hm (by simpa [PyData.hasDictAll] using z) (by simpa using y)) (fun t ht => by
    simp [PyData.shownAll] at ht
    rw [ht]
    exact hz)
  have e : PyData.depthAll [d] = d.depth := by simp [PyData.depthAll]
  rw [e] at hb hk
  refine ⟨bs, hb, ?_⟩
  cases hk with
  | cons h1 h2 => exact h1
theorem allK {prog : Program} {w : World} (I : L2.Inv X pins σ H s) : ∀ (ds : List PyData) (vs : List V) (us : List Value), DqAll X.K H vs ds → Vals vs us → (ds.all nolX) = true → PyData.showableAll ds = true → (∀ t ∈ PyData.shownAll ds, t.length ≤ sizeLine) →
    ∃ bs, ReadAtMost s.heap (PyData.depthAll ds) bs ∧ ReprAllK prog w bs s.heap (PyData.depthAll ds) us (PyData.shownAll ds)
  | [], _, _, h, r, _, _, _ => by cases h; cases r; exact ⟨[], nofun, .nil⟩
  | d :: ds, _, _, h, r, hn, hs, hz => by
    cases h with
    | cons h1 h2 =>
      cases r with
      | cons r1 r2 =>
        obtain ⟨n1, n2⟩ := Bool.and_eq_true_iff.mp (show (nolX d && ds.all nolX) = true from hn)
        obtain ⟨s1, s2⟩ : d.showable = true ∧ PyData.showableAll ds = true := by simpa [PyData.showableAll] using hs
        obtain ⟨b1, q1, k1⟩ := oneK (prog := prog) (w := w) I h1 r1 n1 s1 (hz _ (by simp [PyData.shownAll]))
        obtain ⟨b2, q2, k2⟩ := allK (prog := prog) (w := w) I ds _ _ h2 r2 n2 s2 (fun t ht => hz t (by simp only [PyData.shownAll]; exact List.mem_cons_of_mem _ ht))
        have d1 : d.depth ≤ PyData.depthAll (d :: ds) := by simp only [PyData.depthAll]; omega
        have d2 : PyData.depthAll ds ≤ PyData.depthAll (d :: ds) := by simp only [PyData.depthAll]; omega
        refine ⟨b1 ++ b2, fun b hb => ?_, ?_⟩
        · rcases List.mem_append.mp hb with z | z
          · obtain ⟨x, as, y1, y2⟩ := q1 b z
            exact ⟨x, as, y1, by omega⟩
          · obtain ⟨x, as, y1, y2⟩ := q2 b z
            exact ⟨x, as, y1, by omega⟩
        · have k1' : ReprAllK prog w (b1 ++ b2) s.heap (PyData.depthAll (d :: ds)) [_] [d.shown] := ReprAllK.more_le (fun b hb => List.mem_append_left _ hb) d1 (ReprAllK.cons k1 .nil)
          have k2' := ReprAllK.more_le (as' := b1 ++ b2) (fun b hb => List.mem_append_right _ hb) d2 k2
          simp only [PyData.shownAll]
          cases k1' with
          | cons z1 z2 => exact .cons z1 k2'
end
def shoM (ds : List PyData) : Bool := PyData.showableAll ds && (ds.all nolX && (decide ((PyData.list ds).depth ≤ 64) && decide ((PyData.list ds).shown.length ≤ sizeLine)))
def RprOkM : PyData → Prop
  | .list xs => showB (.list xs) = true ∨ shoM xs = true
  | d => RprOk d
def cReprM : RC := fun ds Q => match ds with
  | [d] => RprOkM d ∧ Q (.str (rpr d))
  | _ => False
def rReprM (K : Frag) : List V → Hp → VK → Prop := fun xs H Q => rReprA K xs H Q ∨ ∃ a ds vs, xs = [.ref a] ∧ SqL K H a vs ∧ DqAll K H vs ds ∧ shoM ds = true ∧ Q (.str (PyData.list ds).shown) H
theorem call_repr_m {X : Cx} (hg : X.A.guards = some []) (hu : X.A.units + 100 < cLine) : CallR X (.builtin "repr") (rReprM X.K) := by
  intro pins s σ H xs us Q I r h
  rcases h with h | ⟨a, ds, vs, rfl, hl, hd, hs, q⟩
  · exact call_repr_a hg hu pins s σ H xs us Q I r h
  · obtain ⟨u, rfl, r1⟩ := vals1 r
    obtain rfl : u = Value.ref a := r1
    obtain ⟨s1, s2⟩ := Bool.and_eq_true_iff.mp hs
    obtain ⟨s3, s4⟩ := Bool.and_eq_true_iff.mp s2
    obtain ⟨s5, s6⟩ := Bool.and_eq_true_iff.mp s4
    have dd := of_decide_eq_true s5
    have hsz := of_decide_eq_true s6
    have hz' : (listText (PyData.shownAll ds)).length ≤ sizeLine := by simpa only [PyData.shown] using hsz
    obtain ⟨its, rv, ⟨o, n, h1, h2, _, h3⟩, _⟩ := I.list hl
    obtain ⟨as, h4⟩ := rdFA I ds _ its hd rv
    obtain ⟨bs, hb, hk⟩ := allK (prog := X.prog) (w := X.w) I ds vs its hd rv s3 s1 (fun t ht => Nat.le_trans (listText_mem_le ht) hz')
    have hna : a ∉ bs := not_mem_of_deeper (Reads.list h1 h2 h3 h4) (by simp only [PyData.depth]; omega) hb
    have S : ShowsBy X.prog X.w s.heap a (.list ds) "list" "list.__repr__" := by
      refine ⟨F.slot_list_repr.toG, F.slot_list_str, F.slot_list_format, fun s' hk0 => ⟨o, hk0 _ _ h1, h2⟩, fun A E s' Q hg hu hk0 hQ => ?_⟩
      simp only [PyData.depth] at hu
      simp only [PyData.shown] at hQ
      cases its with
      | nil =>
        have h4' : ReadsAll s.heap [] ds _ := h4
        cases h4'
        simp only [PyData.shownAll, listText_nil] at hQ
        exact call_list_repr_empty ⟨o, hk0 _ _ h1, h2⟩ (hk0 _ _ h1) h3 (hQ s'.heap _ _ fun _ _ e => e)
      | cons x l =>
        exact call_list_reprK h1 h2 h3 hna (by simpa using hk.length_eq) (fun i y e => hk.item i y (by simpa using e)) hg (fun b _ => Clear.nil b) hu hk0 hQ hz'
    exact call_repr_slot (by omega) (S.typeIs s (fun _ _ e => e)) S.slotRepr (S.call X.A.in1 _ s _ hg (by show X.A.units + 1 + (PyData.list ds).depth < cLine; omega) (fun _ _ e => e) fun h' u tk k => ⟨_, _, rfl, ⟨.str _, H, I.kept k, ⟨_, rfl⟩, q⟩⟩)
theorem sc_reprM {K : Frag} : SC K (rReprM K) cReprM := fun as H cs vs ds Qd Q w d h k => by
  match ds, d with
  | [.none], d => exact .inl (sc_reprA as H cs vs [.none] Qd Q w d h k)
  | [.bool b], d => exact .inl (sc_reprA as H cs vs [.bool b] Qd Q w d h k)
  | [.int i], d => exact .inl (sc_reprA as H cs vs [.int i] Qd Q w d h k)
  | [.str x], d => exact .inl (sc_reprA as H cs vs [.str x] Qd Q w d h k)
  | [.tuple xs], d => exact .inl (sc_reprA as H cs vs [.tuple xs] Qd Q w d h k)
  | [.dict kvs], d => exact .inl (sc_reprA as H cs vs [.dict kvs] Qd Q w d h k)
  | [.list xs], d =>
    rcases h.1 with z | z
    · exact .inl (sc_reprA as H cs vs [.list xs] Qd Q w d ⟨z, h.2⟩ k)
    · match d with
      | .cons (.lst h1 h2) .nil => exact .inr ⟨_, _, _, rfl, SqL.of (hid_sub H as _ _ h1), h2.mono (hid_sub H as), z, k _ H _ (Same.refl H) (.str _) h.2⟩
end Kp

namespace Kp
open PySem PySem.Spec PyProof.Rows L2 PySem.OEX
section
variable {X : Cx} {e : Expr} {es : List Expr} {ta : TA} {p1 p2 pos : Pos}
/-! ### x.__init__(self, ..), x a class of one's own over ValueError -/
theorem pe_leinit {x : Str} {C0 : Addr} {pl : Sem Bool} (hg : Gl X x) (hm : X.mg x = some (.ref C0)) (sp : PySem.W.specialIn X.K (.ref C0) "__getattribute__" = some (some (.builtin "type.__getattribute__"))) (hr : PySem.W.readsIn X.K C0 (.type "type") = true)
    (vV : PySem.W.findCls X.K (.ref C0) (.type "type") "__init__" = some (.val (.builtin "ValueError.__init__"))) (ha : PA X (e :: es) ta)
    (hc : eval (.Call (.Attribute (.Name x p1) "__init__" p2) (e :: es) [] pos) X.env = (do
      let ov ← eval (.Name x p1) X.env
      standAt p2.atName
      let (f, first) ← holding [ov] (getMethod ov "__init__" pl)
      callWith pos f first (backTo pos (starEach (e :: es) X.env)) (backToKw pos (keywordEach [] X.env))) := by rfl)
    (hdb : (x == ("__debug__" : Str)) = false := by decide) (he : starEach (e :: es) X.env = (false, eval e X.env) :: starEach es X.env := by rfl) (hpl : (backTo pos (starEach es X.env)).any (·.1) = false := by rfl) :
    PE X (.Call (.Attribute (.Name x p1) "__init__" p2) (e :: es) [] pos) (tVeI X.K ta) := by
  refine ⟨fun pins s σ H Q I h => ?_⟩
  refine PySem.W.methodCall_KW (ld_glob I hg hm ?_ hdb) hc
  refine PySem.W.method_cls I.kIn sp (PySem.W.cls_value I.kIn hr vV (by decide +kernel) ?_)
  show wpAny _ _ (callWith pos (Value.builtin "ValueError.__init__") [] (backTo pos (starEach (e :: es) X.env)) []) _ _ _
  refine PyProof.Rows.callWith_method1 (thn (ha.run pos pins _ σ H _ (I.tok _) h) fun us s1 ⟨vs, H1, I1, r1, a, C, ws, ev, hl, T, ea, q⟩ => ?_) he hpl
  subst ev
  cases r1 with
  | @cons _ u0 _ ur ra rw' =>
    obtain rfl : u0 = Value.ref a := ra
    have hlen : ur.length ≤ sizeLine := by
      rw [← Paired.length rw', sizeLine_eq]
      omega
    exact oinit_ok T I1 ea hlen fun s' J => ⟨.non, H1, J, rfl, q⟩
end
end Kp

namespace Kp
open PySem PySem.Spec PyProof.Rows L2
section
variable {X : Cx} {E : XK} {K : Frag}
/-! ### a try over errors that may bear a number -/
/-- no cell is an error's dict -/
theorem Wk.noXd {H : Hp} {as : List CA} {cs : CS} (w : Wk K H as cs) {b : Addr} {fs : List (Str × V)} (h : H b = some (.xd fs)) : Vs H as b := ⟨w.lv, fun z => by
  obtain ⟨i, f, hi, hb⟩ := mem_hdl.mp z
  obtain ⟨ds, _, c⟩ := pr_get' w.cel hi
  obtain ⟨a, kd⟩ := f
  rcases List.mem_cons.mp hb with q | q
  · have q : b = a := q
    subst q
    cases kd with
    | lst => obtain ⟨xs, h1, _⟩ := c; rw [h] at h1; cases h1
    | dic ks => obtain ⟨vs, h1, _⟩ := c; rw [h] at h1; cases h1
    | tab nm q => obtain ⟨_, _, ps, h1, _⟩ := c; rw [h] at h1; cases h1
    | obj c0 => obtain ⟨dx, vs, h1, _⟩ := c; rw [h] at h1; cases h1
  · cases kd with
    | lst => cases q
    | dic ks => cases q
    | tab nm q2 => cases q
    | obj c0 =>
      obtain ⟨dx, vs, h1, h2⟩ := c
      have q' : b ∈ (ownL H ⟨a, .obj c0⟩).getD [] := q
      rw [own_at h1] at q'
      have go : ∀ {ns : List (Str × Bool)} {vs : List V} {ds : List PyData}, FldAll K H as ns vs ds → b ∈ refsOf ns (fz ns vs) → False := by
        intro ns vs ds hf
        induction hf with
        | nil =>
          rename_i ns
          intro hb
          have e : fz ns [] = [] := by unfold fz; simp
          rw [e] at hb
          cases ns with
          | nil => cases hb
          | cons n ns => obtain ⟨x, t⟩ := n; cases t <;> cases hb
        | cons hfd r ih =>
          rename_i n ns v vs d ds
          intro hb
          obtain ⟨x, t⟩ := n
          cases t with
          | false => exact ih hb
          | true =>
            obtain ⟨l, xs, es, rfl, h2, h3, h4⟩ := hfd
            rcases List.mem_cons.mp hb with z | z
            · rw [z, h3] at h
              cases h
            · exact ih z
      exact go h2 q'⟩
theorem ExD.vis {H : Hp} {as : List CA} {cs : CS} (w : Wk K H as cs) {nm : Str} {d : Option Addr} (h : ExD H nm d) : ExD (hid H as) nm d := by
  unfold ExD at h ⊢
  cases q : codeE nm with
  | none => rw [q] at h; exact h
  | some i =>
    rw [q] at h
    obtain ⟨dd, h1, h2⟩ := h
    exact ⟨dd, h1, by rw [hid_out (w.noXd h2)]; exact h2⟩
def dTryN (i : Nat) (nms : List Str) (db : DSw) (ds : DS) : DS := fun Dd ρ cs => db (fun nm cs1 => exN nm ∈ nms ∧ ds (Dd.gone i) (ρ.set i (.x nm)) cs1) Dd ρ cs
theorem q_tryN {x n : Str} {body suite : List Stmt} {b₀ : Stmt} {np pos pos' : Pos} {db : DSw} {ds : DS} (i : Nat) (nms : List Str) (hN : X.N.Nodup) (hb : ∀ (W : WX) (pn : List (Addr × Obj)) (xe : Value → Shared → Prop), Takes (X.tr pn xe) W → QSsw (X.tr pn xe) W body db)
    (hu : ∀ (a : Addr) (pn : List (Addr × Obj)), QSs (X.suite a pn) E0 (b₀ :: suite) ds) (tk : Takes X (fun cls d _ H => E cls d H)) (F : X.mg x = some (.ref (He.ga X.K x))) (hx : ∀ nm ∈ nms, PySem.W.exmOne X.K (.ref (He.ga X.K nm)) (.ref (He.ga X.K x)) = some true)
    (hs : X.stack = X.env :: X.outer := by rfl) (hf : X.env.frame = some X.env.locals := by rfl) (hi : X.N[i]? = some n := by rfl) (hln : X.env.kindOf n = some .local := by rfl) (hg : Gl X x := by rfl) (hdb : (x == ("__debug__" : Str)) = false := by decide) :
    QS X E (.Try body [.ExceptHandler (some (.Name x np)) (some n) (b₀ :: suite) pos'] [] [] pos) (dTryN i nms db ds) := by
  refine ⟨_, ps_try_asT (tb := fun W => tOfW X.K W db) (ts := fun a oe cls d => tOfS X.K ds) hs hf hN hi hln ⟨hg, hdb, .inl F⟩ tk (fun W pn xe tk' => ?_) (fun a oe cls d pn => ?_), fun as σ H ρ cs D Dd w ev ek h S => ?_⟩
  · obtain ⟨t, h1, h2⟩ := (hb W pn xe tk').ex
    refine ⟨fun pins s σ H D I q => ?_⟩
    obtain ⟨as, ρ, cs, Ed, Dd, w, ev, ek, hd, S⟩ := q
    exact h1.run pins s σ H D I (h2 as σ H ρ cs Ed D Dd w ev ek hd S)
  · obtain ⟨t, h1, h2⟩ := (hu a pn).ex
    refine ⟨fun pins s σ H D I q => ?_⟩
    obtain ⟨as, ρ, cs, Dd, w, ev, ek, hd, S⟩ := q
    exact h1.run pins s σ H D I (h2 as σ H ρ cs D Dd w ev ek hd S)
  · refine ⟨as, ρ, cs, _, Dd, w, ev, fun nm H1 cs1 e1 w1 q1 dd xd => ?_, h, S⟩
    obtain ⟨q1, q2⟩ := q1
    refine ⟨true, hx _ q1, fun _ a oe na hz hf2 => ?_, nofun⟩
    have sm := Same.new (o := exT a oe) na
    have ev1 : Ev X.K (upd H1 a (exT a oe)) as σ ρ := ev.ext (e1.trans (Ext.of sm))
    have w2 := w1.grow sm
    refine ⟨as, _, cs1, Dd.gone i, w2, ev_set (s := .x nm) ev1 i ⟨a, oe, rfl, hid_new (w1.fresh na), ⟨dd, hz, (xd.mono sm).vis w2⟩, hf2⟩, fun _ _ _ _ _ z => z.elim, q2, ?_⟩
    exact (S.ext w2 (e1.trans (Ext.of sm))).gone i
end
end Kp

/-! ### isinstance of a caught error that has its dict -/
namespace PySem.W
open PySem PySem.Spec PySem.Calls PyProof.Rows
theorem kp_found {K : Frag} {C : Addr} {od : Option Obj} {name : Str} {a g : Value} (hc : (clsIn K C).isSome = true) (ha : findIn K (.ref C) name = some (some a)) (hg : specialIn K a "__get__" = some (some g)) (ht : takesIn K a = some true) : findObj K C od name = some (.bind g a) := by
  obtain ⟨cd, q⟩ := Option.isSome_iff_exists.mp hc
  unfold findObj; simp only [q, ha, Option.bind_some]; simp [hg, ht]
theorem kp_classD {prog : Program} {w : World} {A : Around} {E : Value → Shared → Prop} {s : Shared} {K : Frag} {x D : Addr} {ox : Obj} {od : Option Obj} {Q : Option Value → Shared → Prop} (C : L2.ExcC K D) (X : K.In s.heap) (I : InstAt s.heap x ox D od) (h : Q (some (.ref D)) { s with toks := s.toks + 1 }) :
    wpAny (model prog w) A (getAttr? (.ref x) "__class__") Q E s := by
  have hf := kp_found (od := od) (by obtain ⟨cd, q, _⟩ := any_some C.hd; rw [q]; rfl) C.ha C.hn C.ht
  obtain ⟨hp, gs, dr, tk, ow⟩ := s
  have l0 := I.type (M := model prog w); have l1 := looks_findIn (M := model prog w) X C.hg
  have l2 := looks_findIn (M := model prog w) X C.hk; have l3 := looks_find (M := model prog w) X I hf
  have ls : Looks (model prog w) hp (isInstance (.ref x) (.type "BaseException")) true := l0.andThen (looks_subIn X C.hs)
  have z0 : (false && onTheHeap (Value.builtin "BaseException.__getattribute__")) = false := rfl
  have z2 : (Value.builtin "BaseException.__getattribute__" == Value.builtin "object.__getattribute__") = false := by decide +kernel
  have z1 : (onTheHeap (Value.ref D) && Value.builtin "BaseException.__getattribute__" == Value.builtin "object.__getattribute__") = false := by rw [z2] <;> rfl
  unfold getAttr? getAttrBy? getAttrBy; refine wpAny_bind (wpAny_mkText (wpAny_bind (wpAny_attempt (wpAny_holding (wpAny_bind (l0.at (wpAny_bind (l1.at ?_))))))))
  show wpAny _ _ (if (onTheHeap (Value.ref D) && Value.builtin "BaseException.__getattribute__" == Value.builtin "object.__getattribute__") = true then _ else _) _ _ _; rw [z1, if_neg Bool.false_ne_true]; unfold getAttrByItsOwn hookBefore; refine wpAny_bind ?_
  rw [if_pos (show onTheHeap (Value.ref D) = true by rfl)]; refine l2.at ?_; refine wpAny_bind (wpAny_attempt (wpAny_holding ?_))
  unfold callGetattribute; rw [z0, if_neg Bool.false_ne_true]; unfold boundAndCalled; rw [PySem.F.excAttr_ValueError.ga.bind (.ref x)]; refine wpAny_bind (wpAny_pure ?_)
  show wpAny _ _ (call (.builtin "BaseException.__getattribute__") [.ref x, .str "__class__" tk]) _ _ _; refine wpAny_call (codeAny_call_builtin PySem.F.excAttr_ValueError.ga.plain PySem.F.entry_bexc_ga ?_)
  refine @check_slot (model prog w) _ _ ⟨hp, gs, dr, tk + 1, ow⟩ "BaseException.__getattribute__" "BaseException" "__getattribute__" (.ref x) [.str "__class__" tk] [] _ (by decide +kernel) (by decide +kernel) ls (PySem.F.args_bexc_ga (.ref x) (.str "__class__" tk)) ?_
  unfold Builtin.«object.__getattribute__»; refine wpAny_bind (wpAny_of_eq (a := ((Value.ref x : Value), [Value.str "__class__" tk])) (by first | rfl | (simp only [slotArgs]; rfl)) ?_)
  refine wpAny_bind (wpAny_pure (wpAny_bind (l0.at (wpAny_bind (l3.at ?_)))))
  show wpAny _ _ (holding [Value.builtin "object.__class__"] (call (.builtin "getset_descriptor.__get__") [.builtin "object.__class__", .ref x, .ref D]) >>= ret) _ _ _; refine wpAny_bind (wpAny_holding (wpAny_call (class_get (s := ⟨hp, gs, dr, tk + 1, ow⟩) (ox := ox) (od := od) X I C.hm ?_)))
  refine wpAny_pure ?_; show wpAny _ _ (handedOut (.ref D)) _ _ _; rw [handedOut_of (v := .ref D) rfl]
  first | exact wpAny_pure (wpAny_pure h) | exact wpAny_pure h | exact wpAny_pure (wpAny_bind (wpAny_pure (wpAny_pure h)))
theorem kp_isT {M : Model} {K : Frag} {D : Addr} {h : Heap} (C : L2.ExcC K D) (X : K.In h) : Looks M h (isType (.ref D)) true := by
  obtain ⟨cd, q, _⟩ := any_some C.hd
  unfold clsIn at q
  split at q
  · rename_i c' d' cd' sl' ho; intro A' Q' E' s' k z; unfold isType loadHead; exact wpAny_bind (wpAny_loadPart (k _ _ (X _ _ ho)) (wpAny_pure z))
  · cases q
theorem kp_kitD {K : Frag} {x D : Addr} {ox : Obj} {od : Option Obj} (C : L2.ExcC K D) : KitX K (.ref x) (.ref D) (fun h => InstAt h x ox D od) :=
  ⟨fun _ _ _ I => I.type, fun _ _ X _ => kp_isT C X, fun h tp dd its n sl X htp => (handS_kitx_exc (x := x) (ox := { cls := .ref D, dict := none, data := .plain }) C.hg C.hk C.hs C.hd C.ha C.hn C.ht C.hm).ne h tp dd its n sl X htp, fun X I k => kp_classD C X I k⟩
end PySem.W
namespace Kp
open PySem PySem.Spec PyProof.Rows L2 PySem.OEX
section
variable {X : Cx} {E : XK} {K : Frag}
theorem instD_of {h : Heap} {a D dd : Addr} {oe od : Obj} (hz : Zc (.ref D) (some dd) oe) (hf : ∃ vs, oe.data = .fields vs) (hg : h.get? a = some oe) (ho : h.get? dd = some od) : PySem.W.InstAt h a oe D (some od) := by
  obtain ⟨vs, hv⟩ := hf
  rcases oe with ⟨oc, o2, ob, os⟩
  obtain ⟨h1, h2⟩ := hz
  simp only [] at h1 h2 hv
  subst h1; subst h2; subst hv
  exact ⟨hg, rfl, rfl, ho⟩
def rIsY (K : Frag) : List V → Hp → VK → Prop := fun xs H Q => ∃ (a D dd : Addr) (oe : Obj) (fs : List (Str × V)) (c : V) (cv : Value) (b : Bool), xs = [.ref a, c] ∧ H a = some (exT a oe) ∧ Zc (.ref D) (some dd) oe ∧ (∃ vs, oe.data = .fields vs) ∧ H dd = some (.xd fs) ∧ ExcC K D ∧ (∀ u, RelV c u → u = cv) ∧ PySem.W.kitOne K (.ref D) cv = some b ∧ Q (.bl b) H
def rIsYT (K : Frag) : List V → Hp → VK → Prop := fun xs H Q => ∃ (a D dd tp : Addr) (oe : Obj) (fs : List (Str × V)) (cs : List Addr) (b : Bool), xs = [.ref a, .ref tp] ∧ H a = some (exT a oe) ∧ Zc (.ref D) (some dd) oe ∧ (∃ vs, oe.data = .fields vs) ∧ H dd = some (.xd fs) ∧ ExcC K D ∧ H tp = some (.tup (cs.map V.ref)) ∧ PySem.W.kitAny K (.ref D) (cs.map Value.ref) = some b ∧ Q (.bl b) H
theorem xd_at {P : Program} {w : World} {H : Hp} {h : Heap} {dd : Addr} {fs : List (Str × V)} (hok : HOk P w H h) (he : H dd = some (.xd fs)) : ∃ mA od, h.Ns1 dd mA ∧ h.get? dd = some od ∧ (∀ n, PySem.W.lookIn n od = some (mA n)) ∧ ∀ f, RelO (fs.lookup f) (mA f) := by
  have hx : ObjOk P w H h dd (.xd fs) := hok dd _ he
  obtain ⟨mA, hns, hr⟩ := hx
  obtain ⟨od, ho, hl⟩ := lookIn_ns hns
  exact ⟨mA, od, hns, ho, hl, hr⟩
theorem call_isY : CallR X (.builtin "isinstance") (fun xs H Q => rIsX X.K xs H Q ∨ rIsY X.K xs H Q) := by
  intro pins s σ H xs us Q I r h
  rcases h with h | h
  · exact call_isX pins s σ H xs us Q I r h
  obtain ⟨a, D, dd, oe, fs, c, cv, b, rfl, ha, hz, hf, hd, C, hcv, e, q⟩ := h
  match us, r with
  | [_, u2], .cons r1 (.cons r2 .nil) =>
    cases r1
    obtain rfl := hcv _ r2
    obtain ⟨mA, od, -, ho, -, -⟩ := xd_at I.hok hd
    exact PySem.W.kia_one (PySem.W.kp_kitD C) I.kIn (instD_of hz hf (I.hok a _ ha).1 ho) e (fun z => nomatch z) fun tk => ⟨.bl b, H, I.kept (t' := tk) fun _ _ z => z, rfl, q⟩
theorem call_isYT : CallR X (.builtin "isinstance") (fun xs H Q => rIsXT X.K xs H Q ∨ rIsYT X.K xs H Q) := by
  intro pins s σ H xs us Q I r h
  rcases h with h | h
  · exact call_isXT pins s σ H xs us Q I r h
  obtain ⟨a, D, dd, tp, oe, fs, cs, b, rfl, ha, hz, hf, hd, C, ht, e, q⟩ := h
  match us, r with
  | [_, _], .cons r1 (.cons r2 .nil) =>
    cases r1
    cases r2
    obtain ⟨_, its, rl, ⟨oc, o2, ob, os⟩, g1, g2, n, g3⟩ := I.hok tp _ ht
    simp only [] at g2 g3
    subst g2; subst g3
    obtain rfl := refs_rel rl
    obtain ⟨mA, od, -, ho, -, -⟩ := xd_at I.hok hd
    exact PySem.W.kia_tup (PySem.W.kp_kitD C) I.kIn (instD_of hz hf (I.hok a _ ha).1 ho) g1 e (fun z => nomatch z) fun tk => ⟨.bl b, H, I.kept (t' := tk) fun _ _ z => z, rfl, q⟩
/-- isinstance(x, C), x a name whose slot is a caught error, of whatever kind -/
def dIsY (i : Nat) (ds : List Str) (g : Str → Bool) : DE := fun ρ cs _ Q => match ρ[i]? with
  | some (.x d) => exN d ∈ ds ∧ Q (.bool (g (exN d))) cs
  | _ => False
theorem slot_y {as : List CA} {σ : L2.St} {H : Hp} {ρ : List Sl} {cs : CS} {i : Nat} {ds : List Str} {g : Str → Bool} {Ed : XD} {Q : PyData → CS → Prop} (ev : Ev K H as σ ρ) (h : dIsY i ds g ρ cs Ed Q) :
    ∃ d a oe, σ[i]? = some (some (.ref a)) ∧ H a = some (exT a oe) ∧ (∃ vs, oe.data = .fields vs) ∧ d ∈ ds ∧ Q (.bool (g d)) cs ∧ (Zc (.ref (He.ga K d)) none oe ∨ ∃ dd fs, Zc (.ref (He.ga K d)) (some dd) oe ∧ H dd = some (.xd fs)) := by
  unfold dIsY at h
  cases q : ρ[i]? with
  | none => rw [q] at h; exact h.elim
  | some sl =>
    rw [q] at h
    obtain ⟨o, ho, hs⟩ := pr_get ev q
    cases sl with
    | x d =>
      obtain ⟨a, oe, rfl, h2, ⟨dd, h3, h5⟩, h4⟩ := hs
      refine ⟨exN d, a, oe, ho, hid1 h2, h4, h.1, h.2, ?_⟩
      unfold ExD at h5
      cases q2 : codeE d with
      | none =>
        rw [q2] at h5
        cases h5
        exact .inl h3
      | some k =>
        rw [q2] at h5
        obtain ⟨d2, rfl, h6⟩ := h5
        exact .inr ⟨d2, _, h3, hid1 h6⟩
    | _ => exact h.elim
theorem q_isY {a b : Expr} {p pos : Pos} {c : V} {cv : Value} (i : Nat) (ds : List Str) (g : Str → Bool) (ha : PE X a (tVar i)) (hb : PE X b (tC c)) (hcv : ∀ u, RelV c u → u = cv) (hC : ∀ d ∈ ds, ExcC X.K (He.ga X.K d) ∧ PySem.W.kitOne X.K (.ref (He.ga X.K d)) cv = some (g d)) (hi : X.mg "isinstance" = none) (hg : Gl X "isinstance" := by rfl)
    (hs : starEach [b] X.env = (false, eval b X.env) :: starEach [] X.env := by rfl) (hs2 : starEach [a, b] X.env = (false, eval a X.env) :: starEach [b] X.env := by rfl) (hpl : (backTo pos (starEach [b] X.env)).any (·.1) = false := by rfl) : QE X E (.Call (.Name "isinstance" p) [a, b] [] pos) (dIsY i ds g) := by
  refine ⟨_, pe_callB call_isY hg hi (by decide +kernel) (pa_cons ha (pa_cons hb pa_nil hs) hs2) (he := hs2) (hpl := hpl), fun as σ H ρ cs Ed Qd Q w ev ek h k => ?_⟩
  obtain ⟨d, a, oe, ho, h2, h4, h5, h6, h3⟩ := slot_y ev h
  obtain ⟨z1, z2⟩ := hC d h5
  rcases h3 with h3 | ⟨dd, fs, h3, h7⟩
  · exact ⟨_, ho, .inl ⟨a, _, oe, c, cv, _, rfl, h2, h3, h4, z1, hcv, z2, k _ H _ cs Ext.refl w (.bl _) h6⟩⟩
  · exact ⟨_, ho, .inr ⟨a, _, dd, oe, fs, c, cv, _, rfl, h2, h3, h4, h7, z1, hcv, z2, k _ H _ cs Ext.refl w (.bl _) h6⟩⟩
theorem q_isYT {a : Expr} {es : List Expr} {n : Nat} {p p2 pos : Pos} {cl : List Str} (i : Nat) (ds : List Str) (g : Str → Bool) (ha : PE X a (tVar i)) (hb : NmL X es cl) (hC : ∀ d ∈ ds, ExcC X.K (He.ga X.K d) ∧ PySem.W.kitAny X.K (.ref (He.ga X.K d)) ((cl.map (He.ga X.K)).map Value.ref) = some (g d)) (hi : X.mg "isinstance" = none) (hl : cl.length ≤ 1000 := by decide) (hg : Gl X "isinstance" := by rfl)
    (hs : starEach [.Tuple es n p2] X.env = (false, eval (.Tuple es n p2) X.env) :: starEach [] X.env := by rfl) (hs2 : starEach [a, .Tuple es n p2] X.env = (false, eval a X.env) :: starEach [.Tuple es n p2] X.env := by rfl) (hpl : (backTo pos (starEach [.Tuple es n p2] X.env)).any (·.1) = false := by rfl) : QE X E (.Call (.Name "isinstance" p) [a, .Tuple es n p2] [] pos) (dIsY i ds g) := by
  obtain ⟨t, b1, b2⟩ := hb.ex
  refine ⟨_, pe_callB call_isYT hg hi (by decide +kernel) (pa_cons ha (pa_cons (pe_tup b1) pa_nil hs) hs2) (he := hs2) (hpl := hpl), fun as σ H ρ cs Ed Qd Q w ev ek h k => ?_⟩
  obtain ⟨d, a, oe, ho, h2, h4, h5, h6, h3⟩ := slot_y ev h
  obtain ⟨z1, z2⟩ := hC d h5
  refine ⟨_, ho, b2 σ H _ ⟨le_line (by rw [List.length_map, List.length_map]; omega), fun q hq => ?_⟩⟩
  have sm := Same.new (o := .tup ((cl.map (He.ga X.K)).map V.ref)) hq
  rcases h3 with h3 | ⟨dd, fs, h3, h7⟩
  · exact .inl ⟨a, _, q, oe, _, _, rfl, sm _ _ h2, h3, h4, z1, upd_same, z2, k _ _ _ cs (Ext.of sm) (w.grow sm) (.bl _) h6⟩
  · exact .inr ⟨a, _, dd, q, oe, fs, _, _, rfl, sm _ _ h2, h3, h4, sm _ _ h7, z1, upd_same, z2, k _ _ _ cs (Ext.of sm) (w.grow sm) (.bl _) h6⟩
/-! ### e.number -/
def tXn (C : Addr) (f : Str) (te : TE) : TE := fun σ H Q => te σ H fun x H1 => ∃ (a dd : Addr) (oe : Obj) (fs : List (Str × V)) (v : V), x = .ref a ∧ H1 a = some (exT a oe) ∧ Zc (.ref C) (some dd) oe ∧ (∃ vs, oe.data = .fields vs) ∧ H1 dd = some (.xd fs) ∧ fs.lookup f = some v ∧ Q v H1
theorem pe_xn {C : Addr} {e : Expr} {te : TE} {pos : Pos} {n : Str} (T : ExcC X.K C) (hno : PySem.W.findIn X.K (.ref C) n = some none) (he : PE X e te) (hb : attributeBase e n X.env (eval e X.env) = eval e X.env := by rfl) : PE X (.Attribute e n pos) (tXn C n te) := by
  refine ⟨fun pins s σ H Q I h => attr_of hb (thn (he.run pins s σ H _ I h) fun u s1 hh => ?_)⟩
  obtain ⟨x, H1, I1, rx, a, dd, oe, fs, v, ex, ha, hz, hf, ed, l, q⟩ := hh
  subst ex
  obtain rfl : u = Value.ref a := rx
  obtain ⟨mA, od, -, ho, hl, hr⟩ := xd_at I1.hok ed
  obtain ⟨u, hu, ru⟩ := RelO.some_of (v := v) (o := mA n) (by rw [← l]; exact hr n)
  exact HandSPX.exc_get I1.kIn (instD_of hz hf (I1.hok a _ ha).1 ho) T.hg T.hk T.hs (PySem.W.findObj_own T.hd hno rfl (by rw [hl, hu])) (handed_of ru) ⟨v, H1, I1.tok _, ru, q⟩
/-- e.number, e a caught NoRun -/
def dXn (i : Nat) : DE := fun ρ cs _ Q => match ρ[i]? with
  | some (.x d) => (match codeE d with
    | some k => Q (.int k) cs
    | none => False)
  | _ => False
theorem q_xn {e : Expr} {pos : Pos} (i : Nat) (T : ExcC X.K (He.ga X.K "NoRun")) (hno : PySem.W.findIn X.K (.ref (He.ga X.K "NoRun")) "number" = some none) (ha : PE X e (tVar i)) (hb : attributeBase e "number" X.env (eval e X.env) = eval e X.env := by rfl) : QE X E (.Attribute e "number" pos) (dXn i) := by
  refine ⟨_, pe_xn T hno ha hb, fun as σ H ρ cs Ed Qd Q w ev ek h k => ?_⟩
  unfold dXn at h
  cases q : ρ[i]? with
  | none => rw [q] at h; exact h.elim
  | some sl =>
    rw [q] at h
    obtain ⟨o, ho, hs⟩ := pr_get ev q
    cases sl with
    | x d =>
      obtain ⟨a, oe, rfl, h2, ⟨dd, h3, h5⟩, h4⟩ := hs
      simp only [] at h
      unfold ExD at h5
      cases q2 : codeE d with
      | none => rw [q2] at h; exact h.elim
      | some n =>
        rw [q2] at h h5
        obtain ⟨d2, rfl, h6⟩ := h5
        have e1 : exN d = "NoRun" := by unfold exN; rw [q2]; rfl
        rw [e1] at h3
        exact ⟨_, ho, a, d2, oe, _, .int n, rfl, hid1 h2, h3, h4, hid1 h6, rfl, k _ H _ cs Ext.refl w (.int _) h⟩
    | _ => exact h.elim
/-! ### raise NoRun(e) -/
def spNR (C : Addr) : Sp := fun vs H Q _ => ∃ (a : Addr) (i : Int), vs = [.ref a, .int i] ∧ H a = some (exo a C none) ∧ i.natAbs < 10 ^ 12 ∧ ∀ dx, H dx = none → dx ≠ a → Q .non (upd (upd H dx (exd dx [("number", .int i)])) a (exo a C (some dx)))
/-- what is known of NoRun -/
structure NrF (K : Frag) : Prop where
  o : OexC K (He.ga K "NoRun")
  n : PySem.W.findIn K (.ref (He.ga K "NoRun")) "number" = some none
  s : PySem.W.specialIn K (.ref (He.ga K "LineError")) "__getattribute__" = some (some (.builtin "type.__getattribute__"))
  r : PySem.W.readsIn K (He.ga K "LineError") (.type "type") = true
  v : PySem.W.findCls K (.ref (He.ga K "LineError")) (.type "type") "__init__" = some (.val (.builtin "ValueError.__init__"))
  x : ExcC K (He.ga K "NoRun")
structure CalE (P : Program) (w : World) (K : Frag) (mg : Str → Option Value) (base : Heap) (k : Nat) : Prop where
  ex : ∃ (a : Addr) (fd : FuncData), L2.Meth K (He.ga K "NoRun") "__init__" a ∧ mg "NoRun" = some (.ref (He.ga K "NoRun")) ∧ FnOk P w K mg base (L2.CX P w) k a fd ["self", "number"] (spNR (He.ga K "NoRun")) ∧ Binds K fd ["self", "number"] []
def dRaiseN (da : DE) : DS := fun Dd ρ cs => da ρ cs Dd.ex fun x cs1 => match x with
  | .int i => i.natAbs < 10 ^ 12 ∧ Dd.ex (nrun i) cs1
  | _ => False
theorem passes_no : Passes (L2.CX X.prog X.w) X (fun _ _ _ => False) := by
  intro pins σ H s e s' I h
  obtain ⟨_, _, _, _, _, _, _, _, _, _, _, _, bad⟩ := h
  exact bad.elim
theorem q_raiseN {k : Nat} {e : Expr} {p p2 pos : Pos} {da : DE} (T : NrF X.K) (F : CalE X.prog X.w X.K X.mg X.base k) (hr : Room (k + 1) X.A) (hc : X.calm = true) (tk : Takes X (fun cls d _ H => E cls d H)) (ha : QE X E e da) (hg : Gl X "NoRun" := by rfl) (hs : starEach [e] X.env = (false, eval e X.env) :: starEach [] X.env := by rfl) (hpl : (backTo p2 (starEach [] X.env)).any (·.1) = false := by rfl) :
    QS X E (.Raise (some (.Call (.Name "NoRun" p) [e] [] p2)) none pos) (dRaiseN da) := by
  obtain ⟨fI, fd, f1, f2, f3, f4⟩ := F.ex
  obtain ⟨ta, a1, a2⟩ := ha.ex
  refine ⟨_, ps_raise hc tk (pmk_oex T.o f1.at_ (beq_iff_eq.mp f1.fn) f3 hr f4 .nil passes_no hg f2 (pa_cons a1 pa_nil hs) (by decide) hs hpl), fun as σ H ρ cs D Dd w ev ek h S => ?_⟩
  refine a2 as σ H ρ cs Dd.ex _ _ w ev ek h fun v H1 x cs1 e1 w1 d1 q1 => ?_
  cases d1 <;> try exact q1.elim
  rename_i i
  refine ⟨by simp, fun a hn => ?_⟩
  refine ⟨a, i, rfl, upd_same, q1.1, fun dx hd hne => ⟨rfl, dx, [("number", .int i)], upd_same, ?_, ?_, ?_⟩⟩
  · rw [upd_ne hne]; exact upd_same
  · rw [upd_ne hne] at hd; exact hd
  · have hd' : H1 dx = none := by rw [upd_ne hne] at hd; exact hd
    have eq : upd (del (upd (upd (upd H1 a (exo a (He.ga X.K "NoRun") none)) dx (exd dx [("number", .int i)])) a (exo a (He.ga X.K "NoRun") (some dx))) a) dx (.xd [("number", .int i)]) = upd H1 dx (.xd [("number", .int i)]) := by
      funext b
      by_cases hb : b = dx
      · rw [hb, upd_same, upd_same]
      · rw [upd_ne hb, upd_ne hb]
        by_cases hb2 : b = a
        · rw [hb2, del_same, hn]
        · rw [del_ne hb2, upd_ne hb2, upd_ne hb, upd_ne hb2]
    rw [eq]
    have sm := Same.new (o := .xd [("number", .int i)]) hd'
    have z := ek (nrun i) (upd H1 dx (.xd [("number", .int i)])) cs1 (e1.trans (Ext.of sm)) (w1.grow sm) q1.2 (some dx) (by unfold ExD; rw [code_nrun]; exact ⟨dx, rfl, upd_same⟩)
    rw [exN_nrun] at z
    exact z
end
/-! ### a head that also looks at NoRun -/
theorem oexB_ok {K : Frag} {C : Addr} (q : oexB K C = true) : ∃ nm q N bs bm sn sub ab col dd k0 k1 k2 k3 k5, K.lookup C = some (excClassObj nm q C N bs bm true sn sub ab col dd k0 k1 k2 k3 k5 "ValueError.__new__") ∧ PySem.HandSPX.refsVE bm = true := by
  unfold oexB at q
  split at q
  · rename_i dd c ss ho
    split at q
    · rename_i c1 bm hm
      simp only [Bool.and_eq_true, beq_iff_eq, Bool.not_eq_true'] at q
      obtain ⟨rfl, h1, h2, h3, h4⟩ := q
      split at h4
      · rename_i k0 k1 k2 k3 nw k5 hs
        obtain rfl := beq_iff_eq.mp h4
        obtain ⟨nm, bs, mro, ns, qn, hd, sn, sub, ab, col, del⟩ := c
        simp only [] at hm h1 h2
        subst hm; subst h1; subst h2
        have hsl : ss = #[k0, k1, k2, k3, some (.builtin "ValueError.__new__"), k5] := by
          obtain ⟨l⟩ := ss
          simp only [] at hs
          rw [hs]
        subst hsl
        exact ⟨nm, qn, ns, bs, bm, sn, sub, ab, col, dd, k0, k1, k2, k3, k5, ho, h3⟩
      · cases h4
    · cases q
  · cases q
theorem nrB_ok {K : Frag} (q : nrB K = true) : NrF K := by
  obtain ⟨q1, q⟩ := Bool.and_eq_true_iff.mp q
  obtain ⟨q2, q⟩ := Bool.and_eq_true_iff.mp q
  obtain ⟨q3, q⟩ := Bool.and_eq_true_iff.mp q
  obtain ⟨q4, q⟩ := Bool.and_eq_true_iff.mp q
  obtain ⟨q5, q⟩ := Bool.and_eq_true_iff.mp q
  obtain ⟨q6, q⟩ := Bool.and_eq_true_iff.mp q
  obtain ⟨q7, q⟩ := Bool.and_eq_true_iff.mp q
  obtain ⟨q8, q⟩ := Bool.and_eq_true_iff.mp q
  obtain ⟨q9, q10⟩ := Bool.and_eq_true_iff.mp q
  refine ⟨⟨oexB_ok q1, He.eqO_ok q2, of_decide_eq_true q3, of_decide_eq_true q4, q5⟩, He.eqO_ok q6, He.eqO_ok q7, q8, ?_, exB_ok q10⟩
  split at q9
  · rename_i z e
    rw [e, beq_iff_eq.mp q9]
  · cases q9
end Kp

namespace Kp
open PySem PySem.Spec PyProof.Rows L2 LamX
/-! ### a lambda handed to a def: its code object new in the maker's table, or found there -/
/-- what becomes of the heap -/
def LamTo (H : Hp) (P : Addr) (q : Str) (c' : Addr) (H1 : Hp) : Prop := H1 = H ∨ ∃ ps more : Array Value, H P = some (.tbl ps) ∧ H c' = none ∧ TriplesOk (ps ++ more).toList ∧
  (∀ pos cv, codeAmong pos (ps ++ more).toList = some cv → codeAmong pos ps.toList = some cv ∨ cv = .ref c') ∧ H1 = upd (upd H P (.tbl (ps ++ more))) c' (CodeO c' q)
theorem lam_new {X : Cx} {pins : List (Addr × Obj)} {σ : L2.St} {H : Hp} {s : Shared} {c P : Addr} {params : Arguments} {body : Expr} {scope : Scope} {pos : Pos} {E : Value → Shared → Prop} {Q : Value → Shared → Prop} (I : Inv X pins σ H s) (B : TabB X.base X.mg c P) (hc : X.env.code = .ref c)
    (T : TabH H (H P) (X.env.qual ++ "<lambda>")) (hdef : defaultsOf params X.env = ([], [])) (L : LamS X.env.scope scope)
    (k : ∀ (f c' : Addr) (pm ctv : Value) (H1 : Hp) (s' : Shared), Inv X pins σ H1 s' → LamTo H P (X.env.qual ++ "<lambda>") c' H1 →
      s'.heap.get? f = some (PySem.W.kla_obj "<lambda>" (X.env.qual ++ "<lambda>") params body scope (cloFrom X.env.cells scope.names []) pm c' ctv) → H1 f = none → f ∉ frs X.stack → H1 c' = some (CodeO c' (X.env.qual ++ "<lambda>")) → Q (.ref f) s') :
    wpAny (model X.prog X.w) X.A (eval (.Lambda params body scope pos) X.env) Q E s := by
  obtain ⟨pz, eP, okP, ins⟩ := T
  have gP : s.heap.get? P = some { cls := .none, data := .fields pz } := I.hok P _ eP
  have far : ∀ f, s.heap.objs.size ≤ f → f ∉ frs X.stack := fun f hf z => (List.mem_cons.mp (I.stkSub _ z)).elim
    (fun e => by have := I.lt; rw [← e] at this; exact Nat.lt_irrefl _ (Nat.lt_of_lt_of_le this hf)) fun e => I.nofs hf e
  refine PySem.W.kla_eval hdef ?_
  cases hit : codeAmong pos pz.toList with
  | some cv =>
    obtain ⟨c', rfl, known⟩ := ins pos cv hit
    exact PySem.W.kla_makeFunctionHit (mg := X.mg) (c := c) (P := P) (ps := pz) (closure_ok (L.has I.ok)) I.ok.glob (I.mod.glob.keeps I.bk) hc (B.code.keeps I.bk) gP okP hit (B.bm.keeps I.bk) fun ctv hh tk more big =>
      k hh.objs.size c' ((X.mg "__name__").getD .none) ctv H _ (I.kept fun b o e => Heap.get?_push_of_some _ (more b o e)) (.inl rfl) (Heap.get?_push_size _ rfl) (I.hok.fresh big) (far _ big) known
  | none =>
    refine PySem.W.kla_makeFunction (mg := X.mg) (c := c) (P := P) (ps := pz) (closure_ok (L.has I.ok)) I.ok.glob (I.mod.glob.keeps I.bk) hc (B.code.keeps I.bk) gP okP hit B.gP (B.bm.keeps I.bk) fun c' ctv hh tk but above below record table => ?_
    obtain ⟨c2, oc, vs, t, ec, r1, r2, r3⟩ := record
    cases ec
    have size : s.heap.objs.size ≤ hh.objs.size := Nat.le_trans above (Nat.le_of_lt below)
    have fresh : H c' = none := I.hok.fresh above
    have J := inv_table (t' := tk) (more := #[rawInt pos.line, rawInt pos.col, .ref c']) (h' := hh.push (PySem.W.kla_obj "<lambda>" (X.env.qual ++ "<lambda>") params body scope (cloFrom X.env.cells scope.names []) ((X.mg "__name__").getD .none) c' ctv)) I eP
      (fun b o n e => Heap.get?_push_of_some _ (but b o n e)) (Heap.get?_push_of_some _ table) above ⟨oc, vs, t, Heap.get?_push_of_some _ r1, r2, r3⟩
    have flat : (pz ++ #[rawInt pos.line, rawInt pos.col, .ref c']).toList = pz.toList ++ [rawInt pos.line, rawInt pos.col, .ref c'] := by simp
    refine k hh.objs.size c' ((X.mg "__name__").getD .none) ctv _ _ J (.inr ⟨pz, _, eP, fresh, by rw [flat]; exact PySem.TriplesOk_snoc _ _ _ _ okP, fun p2 cv e => ?_, rfl⟩) (Heap.get?_push_size _ rfl) ?_ (far _ size) upd_same
    · rw [flat] at e
      exact among_app _ okP e
    · rw [upd_ne (Nat.ne_of_gt below), upd_ne (Nat.ne_of_gt (Nat.lt_of_lt_of_le (Heap.lt_size gP) size))]
      exact I.hok.fresh size
/-- x(), in the def that got the lambda, within a try: at the slots as they stand -/
theorem pe_actW {X : Cx} {pins : List (Addr × Obj)} {σ : L2.St} {H : Hp} {s : Shared} {CXg : CXT} {Eg : XK} {Ng : List Str} {qg : Str} {sg : Scope} {g f c' : Addr} {cdg pm ctv : Value} {params : Arguments} {body : Expr} {scope : Scope} {k i : Nat} {a : Str} {pn : List (Addr × Obj)} {xe : Value → Shared → Prop} {W : WX} {t : XK → TE} {p1 p2 : Pos}
    (I : Inv X pins σ H s) (L : LamS X.env.scope scope) (hf : s.heap.get? f = some (PySem.W.kla_obj "<lambda>" (X.env.qual ++ "<lambda>") params body scope (cloFrom X.env.cells scope.names []) pm c' ctv)) (hfn : H f = none) (hfr : f ∉ frs X.stack)
    (hbind : bindArgs (PySem.W.kla_fn "<lambda>" (X.env.qual ++ "<lambda>") params body scope (cloFrom X.env.cells scope.names []) pm (.ref c') ctv) ⟨[], []⟩ = pure [])
    (tk : Takes ((cxOf CXg X.prog X.w X.K X.mg X.base Ng qg sg g cdg X.A X.stack s H Eg).tr pn xe) W) (hr : Room (k + 1) (X.A.deeper (envOfC qg sg s.heap.objs.size g cdg)))
    (hbody : ∀ (A : Around) (outer : List Env) (s : Shared) (H : Hp) (E : XK), Room k (A.deeper (lamEnv X scope s.heap.objs.size f c')) → PE (lamCx X A outer s H E scope f c') body (t E))
    (hN : Ng[i]? = some a) (hv : Vis sg a) (hd : (a == ("__debug__" : Str)) = false) (hcd : (a == ("__classdict__" : Str)) = false) :
    PE ((cxOf CXg X.prog X.w X.K X.mg X.base Ng qg sg g cdg X.A X.stack s H Eg).tr pn xe) (.Call (.Name a p1) [] [] p2) (fun σZ HZ Q => σZ[i]? = some (some (.ref f)) ∧ HZ c' = some (CodeO c' (X.env.qual ++ "<lambda>")) ∧ t (WE W σZ) σ HZ Q) := by
  refine ⟨fun pz sZ σZ HZ Q IZ h => wpAny_Call_Name_kw (thn ((pe_var (pos := p1) (i := i) hN hv hd hcd).run pz sZ σZ HZ (fun v H1 => v = .ref f ∧ H1 = HZ) IZ ⟨.ref f, h.1, rfl, rfl⟩) fun u s1 ⟨v, H1, I1, r1, ev, eH⟩ => ?_)⟩
  obtain ⟨-, hc, ht⟩ := h
  subst ev; rw [eH] at I1; obtain rfl : u = Value.ref f := r1
  have there := I1.base.keep f _ hf hfn hfr (fun z => nomatch (show f ∈ ([] : List Addr) from z))
  obtain ⟨⟨oc, vs, tq, k1, k2, k3⟩, _, _⟩ := I1.hok c' _ hc
  refine PySem.W.callWith_F0 ⟨_, _, _, _, there⟩ ?_
  have run : codeAny (model X.prog X.w) (X.A.deeper (envOfC qg sg s.heap.objs.size g cdg)) (.call (.ref f) ⟨[], []⟩) (CR (L2.CX X.prog X.w) (envOfC qg sg s.heap.objs.size g cdg :: X.stack) X.prog X.w HZ s1 Q (WE W σZ)) s1 := by
    refine PySem.W.kla_callFunE hr.depth there rfl L.co L.gen rfl ⟨c', oc, vs, tq, rfl, k1, k2, k3⟩ ?_
    rw [hbind]
    refine wpAny_pure (wpAny_newFunctionEnv (fun y hy => (L.own y hy).2) (fun y hy => absurd hy (by simp)) (fun hz names but => ⟨I1.nolimit.fresh _ but, ?_⟩) L.kind)
    have kept : ∀ b o, s1.heap.get? b = some o → hz.get? b = some o := fun b o e => but.extBut b o (Nat.ne_of_lt (Heap.lt_size e)) (Heap.get?_push_of_some _ e)
    have J := lam_start2 (A := X.A.deeper (envOfC qg sg s.heap.objs.size g cdg)) (outer := envOfC qg sg s.heap.objs.size g cdg :: X.stack) (E := WE W σZ) (f := f) (c' := c') (tk := s1.toks + ([] : List (Str × Value)).length) I L I1.env0 hr.hd (show Un (frs X.stack) [] H HZ s.heap s1.heap from I1.base) names kept
    show codeAny _ _ (.expr body (lamEnv X scope s1.heap.objs.size f c')) _ _
    refine PySem.W.kla_codeExpr (wpAny_mono ((hbody _ _ s1 HZ _ (hr.deeper _)).run [] _ _ HZ Q J ht) (fun v s' hq => ?_) fun e s' hq => hq)
    obtain ⟨w', H', J', rv, q⟩ := hq
    exact ⟨w', H', J'.os, J'.bare, J'.base, J'.hok, rv, q⟩
  refine wpAny_call (codeAny_mono run fun r s' hq => ?_)
  cases r with
  | error e => exact passAt tk σZ pz HZ s1 e s' I1 hq
  | ok fl => cases fl with
    | ret u => exact I1.after hq
    | next => exact hq.elim
    | brk => exact hq.elim
    | cont => exact hq.elim
/-! ### over data -/
/-- what the call of such a lambda does -/
abbrev DB := CS → XD → (PyData → CS → Prop) → Prop
/-- what a def makes of it -/
abbrev FM := DB → CS → (PyData → CS → Prop) → Prop
def dAct (P : Option V → Hp → List CA → Prop) (B : DB) : DE := fun ρ cs Ed Q => ρ[0]? = some (.lm P) ∧ ∃ (E1 : XD) (Q1 : PyData → CS → Prop), B cs E1 Q1 ∧ (∀ nm cs1, E1 nm cs1 → Ed nm cs1) ∧ ∀ v cs1, Q1 v cs1 → Q v cs1
/-- the def that calls what it got: within a try, whatever that does -/
structure CalL (P : Program) (w : World) (K : Frag) (mg : Str → Option Value) (base : Heap) (k : Nat) (name : Str) (fm : FM) : Prop where
  ex : ∃ (g : Addr) (a : Str) (oc : Value) (od : Option Addr) (pg : Arguments) (bg : List Stmt) (sg : Scope) (dV kV doc pm cdv ct : Value) (an : Option Addr) (osl : Array (Option Value)) (Ng : List Str), mg name = some (.ref g) ∧ PySem.W.keepIn K (.ref g) = true ∧
    K.lookup g = some ⟨oc, od, .func (PySem.W.fnOf name name pg bg sg dV kV doc pm an cdv ct), osl⟩ ∧ PySem.W.codeIn K cdv name = true ∧ L2.Binds K (PySem.W.fnOf name name pg bg sg dV kV doc pm an cdv ct) [a] [] ∧ FnScope Ng [a] sg ∧
    (Ng[0]? = some a ∧ Vis sg a ∧ (a == ("__debug__" : Str)) = false ∧ (a == ("__classdict__" : Str)) = false) ∧
    ∀ (A : Around) (outer : List Env) (s : Shared) (H : Hp) (Pr : Option V → Hp → List CA → Prop) (B : DB), Room k (A.deeper (envOfC name sg s.heap.objs.size g cdv)) →
      (∀ (W : WX) (pn : List (Addr × Obj)) (xe : Value → Shared → Prop) (p1 p2 : Pos), Takes ((cxOf C8.CX0 P w K mg base Ng name sg g cdv A outer s H C8.E0).tr pn xe) W → QEw ((cxOf C8.CX0 P w K mg base Ng name sg g cdv A outer s H C8.E0).tr pn xe) W (.Call (.Name a p1) [] [] p2) (dAct Pr B)) →
      ∃ ds, QSs (cxOf C8.CX0 P w K mg base Ng name sg g cdv A outer s H C8.E0).nox E0 bg ds ∧ ∀ cs Q, fm B cs Q → ds (DN0 Q (fun _ _ => False) X0) ([.lm Pr] ++ List.replicate (Ng.length - 1) .no) cs
def dLam (nm q : Str) (fm : FM) (de : DE) : DE := fun ρ cs _ Q => (∃ j : Nat, cs[j]? = some [mgc nm q]) ∧ fm (fun cs1 Ed1 Q1 => de ρ cs1 Ed1 Q1) cs Q
theorem no_dict {K : Frag} {H : Hp} {v : V} {a b : PyData} : ¬ Dq K H v (.dict [(a, b)]) := fun h => by cases h
theorem no_fld {K : Frag} {H : Hp} {as : List CA} {a b : PyData} : ∀ {ns : List (Str × Bool)} {vs : List V}, ¬ FldAll K H as ns vs [.dict [(a, b)]]
  | _, _, .cons (n := (x, own)) d _ => by
    cases own with
    | false => exact no_dict (show Dq K (hid H as) _ (.dict [(a, b)]) from d)
    | true =>
      obtain ⟨_, _, _, _, e, _⟩ := d
      cases e
theorem Wk.tab {K : Frag} {H : Hp} {as : List CA} {cs : CS} (w : Wk K H as cs) {j : Nat} {nm q : Str} (h : cs[j]? = some [mgc nm q]) : as[j]? = some ⟨tabA K nm, .tab nm q⟩ ∧ TabH (hid H as) (H (tabA K nm)) q := by
  obtain ⟨⟨a, kd⟩, h1, c⟩ := pr_get w.cel h
  cases kd with
  | lst =>
    obtain ⟨xs, -, d⟩ := c
    cases d with
    | cons d _ => exact (no_dict d).elim
  | dic ks =>
    obtain ⟨xs, -, -, d⟩ := c
    cases d with
    | cons d _ => exact (no_dict d).elim
  | obj oc =>
    obtain ⟨dx, vs, -, d⟩ := c
    exact (no_fld d).elim
  | tab nm' q' =>
    obtain ⟨e, rfl, t⟩ := c
    have e' := (List.cons.inj e).1
    unfold mgc at e'
    simp only [PyData.dict.injEq, List.cons.injEq, Prod.mk.injEq, PyData.str.injEq, and_true] at e'
    obtain ⟨rfl, rfl⟩ := e'
    exact ⟨h1, t⟩
theorem upd_comm {H : Hp} {a b : Addr} {x y : HO} (n : a ≠ b) : upd (upd H a x) b y = upd (upd H b y) a x := by
  funext c
  by_cases h1 : c = a
  · rw [h1, upd_same, upd_ne n, upd_same]
  · by_cases h2 : c = b
    · rw [h2, upd_same, upd_ne (Ne.symm n), upd_same]
    · rw [upd_ne h2, upd_ne h1, upd_ne h1, upd_ne h2]
theorem LamTo.ext {K : Frag} {H H1 : Hp} {as : List CA} {cs : CS} {nm q : Str} {c' : Addr} (w : Wk K H as cs) {j : Nat} (h : cs[j]? = some [mgc nm q]) (t : LamTo H (tabA K nm) q c' H1) : Ext as H H1 ∧ Wk K H1 as cs := by
  rcases t with rfl | ⟨ps, more, eP, ec, ok, am, rfl⟩
  · exact ⟨Ext.refl, w⟩
  obtain ⟨hj, pz, eZ, okZ, ins⟩ := w.tab h
  have ez : ps = pz := by rw [eP] at eZ; exact HO.tbl.inj (Option.some.inj eZ)
  subst ez
  rw [upd_comm (ne_of_none eP ec)]
  have sm : Same H (upd H c' (CodeO c' q)) := Same.new ec
  have w1 : Wk K (upd H c' (CodeO c' q)) as cs := w.grow sm
  have x1 : Ext as H (upd H c' (CodeO c' q)) := Ext.of sm
  have x2 : Ext as (upd H c' (CodeO c' q)) (upd (upd H c' (CodeO c' q)) (tabA K nm) (.tbl (ps ++ more))) := ext_updO (f := ⟨tabA K nm, .tab nm q⟩) w1 hj rfl rfl
  refine ⟨x1.trans x2, ?_⟩
  have w2 := w1.putO (f := ⟨tabA K nm, .tab nm q⟩) (o := .tbl (ps ++ more)) (ds := [mgc nm q]) hj rfl rfl ⟨rfl, rfl, ps ++ more, upd_same, ok, fun pos cv e => ?_⟩
  · have e : cs.set j [mgc nm q] = cs := by
      obtain ⟨h1, h2⟩ := List.getElem?_eq_some_iff.mp h
      rw [← h2]
      exact List.set_getElem_self h1
    rw [e] at w2
    exact w2
  · rw [hid_updO (f := ⟨tabA K nm, .tab nm q⟩) w1 hj rfl rfl]
    rcases am pos cv e with z | z
    · obtain ⟨c0, e1, e2⟩ := ins pos cv z
      exact ⟨c0, e1, x1.hid _ _ e2⟩
    · exact ⟨c', z, hid_new (w.fresh ec)⟩
theorem LamTo.code {K : Frag} {H H1 : Hp} {as : List CA} {cs : CS} {nm q : Str} {c' : Addr} (w : Wk K H as cs) {j : Nat} (h : cs[j]? = some [mgc nm q]) (t : LamTo H (tabA K nm) q c' H1) (hc : H1 c' = some (CodeO c' q)) : hid H1 as c' = some (CodeO c' q) := by
  have w1 := (t.ext w h).2
  rw [hid_out ⟨w1.lv, fun z => ?_⟩]
  · exact hc
  obtain ⟨o, e, k⟩ := w1.lists.2 c' z
  rw [hc] at e
  cases e
  rcases k with ⟨_, k⟩ | ⟨_, k⟩ | ⟨_, _, _, k⟩ | ⟨_, k⟩ <;> · unfold CodeO at k; cases k
/-- a reading as it is wanted -/
def tOfY (K : Frag) (E : XK) (de : DE) : TE := fun σ H Q => ∃ (as : List CA) (ρ : List Sl) (cs : CS) (Ed : XD) (Qd : PyData → CS → Prop), Wk K H as cs ∧ Ev K H as σ ρ ∧ EK K E Ed as H ∧ de ρ cs Ed Qd ∧ ∀ v H' x cs', Ext as H H' → Wk K H' as cs' → Dq K (hid H' as) v x → Qd x cs' → Q v H'
theorem QE.tof {X : Cx} {E : XK} {e : Expr} {de : DE} (h : QE X E e de) : PE X e (tOfY X.K E de) := by
  obtain ⟨t, a1, a2⟩ := h.ex
  refine ⟨fun pins s σ H Q I h => ?_⟩
  obtain ⟨as, ρ, cs, Ed, Qd, w, ev, ek, hd, k⟩ := h
  exact a1.run pins s σ H Q I (a2 as σ H ρ cs Ed Qd Q w ev ek hd k)
/-- x(lambda: e) -/
theorem q_lam {X : Cx} {E : XK} {c : Addr} {k : Nat} {x nm q : Str} {fm : FM} {params : Arguments} {body : Expr} {scope : Scope} {de : DE} {p lpos pos : Pos} (F : CalL X.prog X.w X.K X.mg X.base (k + 1) x fm) (B : TabB X.base X.mg c (tabA X.K nm)) (hc : X.env.code = .ref c) (hr : Room (k + 2) X.A)
    (hq : X.env.qual ++ "<lambda>" = q) (hbody : ∀ (A : Around) (outer : List Env) (s : Shared) (H : Hp) (E : XK) (f c' : Addr), Room k (A.deeper (lamEnv X scope s.heap.objs.size f c')) → QE (lamCx X A outer s H E scope f c') E body de)
    (L : LamS X.env.scope scope) (hg : Gl X x := by rfl) (hdef : defaultsOf params X.env = ([], []) := by rfl) (hbind : ∀ (q : Str) (cl : List (Str × Addr)) (pm cv ctv : Value), bindArgs (PySem.W.kla_fn "<lambda>" q params body scope cl pm cv ctv) ⟨[], []⟩ = pure [] := by intros; rfl) (hdb : (x == ("__debug__" : Str)) = false := by decide) :
    QE X E (.Call (.Name x p) [.Lambda params body scope lpos] [] pos) (dLam nm q fm de) := by
  subst hq
  obtain ⟨g, a, oc, od, pg, bg, sg, dV, kV, doc, pm, cdv, ct, an, osl, Ng, hm, hk, lk, hcg, hb, Sg, ⟨hN, hv, hd, hcd⟩, hB⟩ := F.ex
  refine ⟨fun σ H Q => ∃ as ρ cs Ed Qd, Wk X.K H as cs ∧ Ev X.K H as σ ρ ∧ dLam nm (X.env.qual ++ "<lambda>") fm de ρ cs Ed Qd ∧ ∀ v H' y cs', Ext as H H' → Wk X.K H' as cs' → Dq X.K (hid H' as) v y → Qd y cs' → Q v H', ⟨fun pins s σ H Q I h => ?_⟩, fun as σ H ρ cs Ed Qd Q w ev ek h kk => ⟨as, ρ, cs, Ed, Qd, w, ev, h, kk⟩⟩
  obtain ⟨as, ρ, cs, Ed, Qd, w, ev, ⟨⟨j, hj⟩, hfm⟩, kk⟩ := h
  obtain ⟨hat, tab⟩ := w.tab hj
  refine wpAny_Call_Name_kw (ld_glob I hg hm ?_ hdb)
  refine PySem.W.callWith_K (h₀ := X.base) I.ok.mod.kin hk ?_ (by rfl) (by rfl)
  show wpAny _ _ (spliced ((false, eval (.Lambda params body scope lpos) X.env) :: backTo pos (starEach [] X.env))) _ _ s
  refine Calls.spliced_cons (lam_new I B hc (tab.mono (hid_sub H as)) hdef L fun f c' pm' ctv H1 s' I1 to hf hfn hfr hco => ?_)
  obtain ⟨x1, w1⟩ := to.ext w hj
  have hid1' := to.code w hj hco
  have ev1 := ev.ext x1
  refine Calls.spliced_nil ⟨I1.kIn, ?_⟩
  have rc : codeAny (model X.prog X.w) X.A (.call (.ref g) ⟨[.ref f], []⟩) (CR C8.CX0 X.stack X.prog X.w H1 s' Q C8.E0) s' := by
    refine run_ofS (N := Ng) (ps := [a]) (us := [.ref f]) (vs := [.ref f]) lk hcg Sg hr I1.env0 (hb s' [.ref f] I1.kIn rfl) (.cons rfl .nil) rfl fun hr' => ?_
    have closed : ∀ H2, Same (hid H1 as) (hid H2 as) → some (V.ref f) = some (.ref f) ∧ Ev X.K H2 as σ ρ ∧ H2 c' = some (CodeO c' (X.env.qual ++ "<lambda>")) := fun H2 sm => ⟨rfl, pr_map (fun _ _ z => z.ext sm) ev1, hid1 (sm _ _ hid1')⟩
    obtain ⟨ds, hD, hS⟩ := hB X.A X.stack s' H1 (fun o H2 as2 => o = some (.ref f) ∧ Ev X.K H2 as2 σ ρ ∧ H2 c' = some (CodeO c' (X.env.qual ++ "<lambda>"))) (fun cs1 Ed1 Q1 => de ρ cs1 Ed1 Q1) hr' (by
        intro W pn xe p1 p2 tk
        refine ⟨_, pe_actW (t := fun E => tOfY X.K E de) (i := 0) I1 L hf hfn hfr (hbind _ _ _ _ _) tk hr' (fun A outer s H E hr2 => (hbody A outer s H E f c' hr2).tof) hN hv hd hcd, fun as2 σZ HZ ρZ cs2 Ed2 Qd2 Q2 w2 evZ ekZ hZ kZ => ?_⟩
        obtain ⟨hz0, E1, Q1, hz1, hz2, hz3⟩ := hZ
        obtain ⟨o, ho, hsl⟩ := pr_get evZ hz0
        obtain ⟨e1, e2, e3⟩ := hsl.2 HZ (Same.refl _)
        rw [e1] at ho
        exact ⟨ho, e3, as2, ρ, cs2, E1, Q1, w2, e2, fun C H' cs' e w q => ekZ C H' cs' e w (hz2 C cs' q), hz1, fun v H' x cs' e w d q => kZ v H' x cs' e w d (hz3 x cs' q)⟩)
    · obtain ⟨t, ht, st⟩ := hD.ex
      have h5 : ∀ v H' y cs', Ext as H1 H' → Wk X.K H' as cs' → Dq X.K (hid H' as) v y → Qd y cs' → Q v H' := fun v H' y cs' e => kk v H' y cs' (x1.trans e)
      have ar : Ar X.K H1 as [.ref f] [.lm fun o H2 as2 => o = some (.ref f) ∧ Ev X.K H2 as2 σ ρ ∧ H2 c' = some (CodeO c' (X.env.qual ++ "<lambda>"))] := .cons ⟨⟨⟨_, rfl⟩, closed⟩, fun z => by cases z⟩ .nil
      refine ⟨t, ht.nox, st as _ H1 _ cs _ (DN0 Qd (fun _ _ => False) X0) w1 (ev_start Ng ar) ekF (hS cs Qd hfm) ⟨fun ex σ' H' ρ' cs' hf e w' ev q => ?_, fun ex σ' H' ρ' cs' hf e w' ev q => q.elim, fun ex σ' H' ρ' cs' hf e w' ev q => q.elim, fun v H' x cs' e w' d q => ?_, fun p kd H' ds cs' e f' w' q => by cases kd <;> exact q.elim⟩⟩
      · exact h5 .non H' .none _ e w'.drop .non q
      · exact h5 v H' x cs' e w' d q
  refine wpAny_call (codeAny_mono rc fun r s2 hq => ?_)
  cases r with
  | error e => exact (show False from hq).elim
  | ok fl => cases fl with
    | ret u => exact I1.after hq
    | next => exact hq.elim
    | brk => exact hq.elim
    | cont => exact hq.elim
/-! ### a def that makes lambdas: its own code object is known -/
section
variable {P : Program} {w : World} {K : Frag} {mg : Str → Option Value} {base : Heap} {name qual : Str} {st : Stmt} {a : Addr} {fd : FuncData} {N ps : List Str} {k : Nat} {dvs : List V} {kws : List (Str × V)}
theorem fnGC_of {f : FD} {ds : DS} (F : FunD K name qual (defArgs st) (defBody st) (defScope st) dvs kws a fd) (hga : a = He.ga K name) (S : FnScope N ps (defScope st)) (hlen : ∀ ss cs Ed Q, f ss cs Ed Q → ss.length = ps.length)
    (body : ∀ (cdv : Value) (A : Around) (outer : List Env) (s : Shared) (H : Hp) (E : XK), cdv = .ref (He.codeOf K (name, none)) → Room k (A.deeper (envOfC qual (defScope st) s.heap.objs.size a cdv)) → A.guards = some [] → QSs (cxOf (L2.CX P w) P w K mg base N qual (defScope st) a cdv A outer s H E) E (defBody st) ds)
    (hf : ∀ ss cs Ed Qd, f ss cs Ed Qd → ds (DN0 Qd (fun _ _ => False) Ed) (ss ++ List.replicate (N.length - ss.length) .no) cs) : FnG P w K mg base (L2.CX P w) (k + 1) a fd ps (spD K f) := by
  have F0 := F
  obtain ⟨y1, y2, y3, y4, y5, y6, y7, cdv, y8, y9, rfl, there, code, -, -⟩ := F.ex
  have hcd : cdv = .ref (He.codeOf K (name, none)) := by
    obtain ⟨c, e⟩ := He.codeIn_ref code
    subst hga
    rw [e]
    exact congrArg Value.ref (He.codeOf_eq (p := (name, none)) there e).symm
  have len : ∀ vs H Q E, spD K f vs H Q E → vs.length = ps.length := fun vs H Q E h => by
    obtain ⟨as, ss, cs, Ed, Qd, _, h2, _, h4, _⟩ := h
    rw [pr_len h2]
    exact hlen _ _ _ _ h4
  refine ⟨len, fun A outer s H args us vs Q E room gd e0 bind rel prom => ?_⟩
  have kin : K.In s.heap := e0.mod.kin.keeps fun b o e => (e0.bs b o e).1
  have nolim : s.heap.NoLimit := e0.mod.nolimit.keeps fun b o e => (e0.bs b o e).1
  have kinds : ∀ y ∈ ps.zip us, (defScope st).names.lookup y.1 = some .local ∨ ((defScope st).names.lookup y.1 = some .cell ∧ ((cellsFrom (s.heap.objs.size + 1) (defScope st).names []).lookup y.1).isSome = true) := by
    rintro ⟨n, v⟩ hy
    rcases S.par n (List.of_mem_zip hy).1 with q | q
    · exact .inl q
    · exact .inr ⟨q, PySem.W.cellsFrom_some _ _ _ (.inl q)⟩
  refine codeAny_call_function room.depth (kin _ _ there) rfl S.co S.gen rfl (PySem.W.codeRec_of kin code) (bind _ _ _ _ ?_)
  refine wpAny_newFunctionEnv_cells S.kind kinds fun env henv s1 made => ?_
  subst henv
  refine ⟨nolim.keeps made.toInCall.keep, codeAny_func ?_⟩
  have len' := len _ _ _ _ prom
  obtain ⟨as, ss, cs, Ed, Qd, h1, h2, h3, h4, h5⟩ := prom
  obtain ⟨t, b1, b2⟩ := (body cdv A outer s H E hcd (room.deeper _) gd).ex
  have ht2 := b2 as _ H _ cs { nx := fun _ H' => Q .non H', rt := Q } (DN0 Qd (fun _ _ => False) Ed) h1 (ev_start N h2) h3 (hf _ _ _ _ h4) ⟨fun ex σ' H' ρ' cs' hf e w' ev q => h5 .non H' .none _ e w'.drop .non q, fun ex σ' H' ρ' cs' hf e w' ev q => q.elim, fun ex σ' H' ρ' cs' hf e w' ev q => q.elim, fun v H' x cs' e w' d q => h5 v H' x cs' e w' d q, fun p kd H' ds cs' e f' w' q => by cases kd <;> exact q.elim⟩
  have I : Inv (cxOf (L2.CX P w) P w K mg base N qual (defScope st) a cdv A outer s H E) [] (L2.start N vs) H s1 := inv_start S room.hd e0 len' rel made
  refine wpAny_mono (b1.run [] s1 (L2.start N vs) H _ I ht2) (fun fl s' ends => ?_) fun e s' ends => ends
  cases fl with
  | ret u =>
    obtain ⟨v, σ', H', J, rv, q⟩ := ends
    exact ⟨v, H', J.os, J.bare, J.base, J.hok, rv, q⟩
  | next =>
    obtain ⟨σ', H', J, q⟩ := ends
    exact ⟨V.non, H', J.os, J.bare, J.base, J.hok, rfl, q⟩
  | brk =>
    obtain ⟨_, _, _, q⟩ := ends
    exact q.elim
  | cont =>
    obtain ⟨_, _, _, q⟩ := ends
    exact q.elim
theorem calGC_of {f : FD} {ds : DS} (F : FunD K name qual (defArgs st) (defBody st) (defScope st) dvs kws a fd) (hga : a = He.ga K name) (S : FnScope N ps (defScope st)) (hb : Binds K fd ps []) (hm : mg name = some (.ref a)) (hlen : ∀ ss cs Ed Q, f ss cs Ed Q → ss.length = ps.length)
    (body : ∀ (cdv : Value) (A : Around) (outer : List Env) (s : Shared) (H : Hp) (E : XK), cdv = .ref (He.codeOf K (name, none)) → Room k (A.deeper (envOfC qual (defScope st) s.heap.objs.size a cdv)) → A.guards = some [] → QSs (cxOf (L2.CX P w) P w K mg base N qual (defScope st) a cdv A outer s H E) E (defBody st) ds)
    (hf : ∀ ss cs Ed Qd, f ss cs Ed Qd → ds (DN0 Qd (fun _ _ => False) Ed) (ss ++ List.replicate (N.length - ss.length) .no) cs) : CalG P w K mg base (k + 1) name ps f := ⟨a, fd, hm, F.kp, fnGC_of F hga S hlen body hf, hb⟩
/-- the def that calls what it got -/
theorem calL_of {fm : FM} {ds : (Option V → Hp → List CA → Prop) → DB → DS} {p : Str} (F : FunD K name name (defArgs st) (defBody st) (defScope st) [] [] a fd) (S : FnScope N [p] (defScope st)) (hb : Binds K fd [p] []) (hm : mg name = some (.ref a)) (hN : N[0]? = some p) (hv : Vis (defScope st) p) (hd : (p == ("__debug__" : Str)) = false) (hcd : (p == ("__classdict__" : Str)) = false)
    (body : ∀ (cdv : Value) (A : Around) (outer : List Env) (s : Shared) (H : Hp) (Pr : Option V → Hp → List CA → Prop) (B : DB), Room k (A.deeper (envOfC name (defScope st) s.heap.objs.size a cdv)) →
      (∀ (W : WX) (pn : List (Addr × Obj)) (xe : Value → Shared → Prop) (p1 p2 : Pos), Takes ((cxOf C8.CX0 P w K mg base N name (defScope st) a cdv A outer s H C8.E0).tr pn xe) W → QEw ((cxOf C8.CX0 P w K mg base N name (defScope st) a cdv A outer s H C8.E0).tr pn xe) W (.Call (.Name p p1) [] [] p2) (dAct Pr B)) →
      QSs (cxOf C8.CX0 P w K mg base N name (defScope st) a cdv A outer s H C8.E0).nox E0 (defBody st) (ds Pr B))
    (hf : ∀ Pr B cs Q, fm B cs Q → ds Pr B (DN0 Q (fun _ _ => False) X0) ([.lm Pr] ++ List.replicate (N.length - 1) .no) cs) : CalL P w K mg base k name fm := by
  obtain ⟨y1, y2, y3, y4, y5, y6, y7, cdv, y8, y9, rfl, there, code, -, -⟩ := F.ex
  exact ⟨a, p, y1, y2, defArgs st, defBody st, defScope st, y3, y4, y5, y6, cdv, y8, y7, y9, N, hm, F.kp, there, code, hb, S, ⟨hN, hv, hd, hcd⟩, fun A outer s H Pr B hr act => ⟨ds Pr B, body cdv A outer s H Pr B hr act, hf Pr B⟩⟩
end
end Kp

namespace Kp
open PySem PySem.Spec PyProof.Rows L2 LamX
/-! ### the law's own promise where one def makes lambdas -/
def fLawT (nm q : Str) (n : Nat) : FD := fun ss cs _ Q => cs = [[mgc nm q]] ∧ ∃ ns : List Int, ss = [.f (ns.map .int)] ∧ ns.length ≤ n ∧ ∀ cs', Q (.bool true) cs'
theorem sp_lawT {K : Frag} {H : Hp} {a : Addr} {ns : List Int} {n : Nat} {nm q : Str} (hl : ns.length ≤ n) (hS : SqL K H a (ns.map V.int)) (hP : H (tabA K nm) = some (.tbl #[])) : spD K (fLawT nm q n) [.ref a] H (fun v _ => v = .bl true) fun _ _ _ => False := by
  have lv : Lv H [⟨tabA K nm, .tab nm q⟩] := fun i f h => by
    cases i with
    | zero => cases h; rfl
    | succ i => simp at h
  have see : ∀ b, b ≠ tabA K nm → hid H [⟨tabA K nm, .tab nm q⟩] b = H b := fun b hb => hid_out ⟨lv, fun z => hb (by
    have z' : b ∈ [tabA K nm] := z
    exact List.mem_singleton.mp z')⟩
  have sq : SqL K (hid H [⟨tabA K nm, .tab nm q⟩]) a (ns.map V.int) := by
    rcases hS with (h | ⟨o, h⟩) | h
    · exact .inl (.inl (by rw [see a fun z => by rw [z, hP] at h; cases h]; exact h))
    · exact .inl (.inr ⟨o, by rw [see a fun z => by rw [z, hP] at h; cases h]; exact h⟩)
    · exact .inr h
  refine ⟨[⟨tabA K nm, .tab nm q⟩], [.f (ns.map .int)], [[mgc nm q]], fun _ _ => False, fun x _ => x = .bool true, ⟨List.nodup_cons.mpr ⟨List.not_mem_nil, List.nodup_nil⟩, .cons ⟨rfl, rfl, #[], hP, True.intro, fun pos cv e => ?_⟩ .nil⟩, .cons ⟨⟨a, _, rfl, sq, dq_ints ns⟩, fun z => by cases z⟩ .nil, fun _ _ _ _ _ z => z.elim, ⟨rfl, ns, rfl, hl, fun _ => rfl⟩, fun v H' x cs' _ _ d q => ?_⟩
  · have e' : codeAmong pos [] = some cv := e
    simp [codeAmong] at e'
  · subst q
    cases d
    rfl
/-- the law's call, where its script is read and one table may grow -/
theorem law_callTG {P : Program} {w : World} {K : Frag} {mg mb : Str → Option Value} {k : Nat} {fa a : Addr} {fd : FuncData} {x nm qn : Str} {n : Nat} {s : Shared} {vs : List Value} {ns : List Int}
    (KX : K.In s.heap) (hns : s.heap.Ns mainGlobals mg) (hb : s.heap.Ns builtinsNs mb) (hbb : ∀ x : Str, x ≠ "__name__" → mb x = bootBuiltins x) (hlim : s.heap.NoLimit) (hg : s.gens = #[]) (ha : s.heap.get? a = some { cls := .type "list", data := .seq vs.toArray }) (hi : IntsAre vs ns)
    (hT : s.heap.get? (tabA K nm) = some { cls := .none, data := .fields #[] }) (nT : K.lookup (tabA K nm) = none) (C : PySem.W.CodeHd s.heap (He.codeOf K (nm, none)) (tabA K nm))
    (hbm : ∃ (bm : Addr) (ob : Obj), mg "__builtins__" = some (.ref bm) ∧ bm ≠ builtinsNs ∧ s.heap.get? bm = some ob ∧ ob.cls = .type "module" ∧ ob.dict = some builtinsNs ∧ ob.data = .plain)
    (hn : ns.length ≤ n) (hl : n ≤ sizeLine) (hr : Room k callerA) (F : ∀ base : Heap, TabB base mg (He.codeOf K (nm, none)) (tabA K nm) → FnG P w K mg base (L2.CX P w) k fa fd [x] (spD K (fLawT nm qn n))) (bind : ∀ (s : Shared) (u : Value), BindsTo s fd ⟨[u], []⟩ [(x, u)]) :
    codeAny (model P w) callerA (.call (.ref fa) ⟨[.ref a], []⟩) (fun r s' => r = .ok (.ret (.bool true)) ∧ OldK s.heap s'.heap ∧ s'.os = s.os ∧ AllBare s'.gens) s := by
  have same := hi.length
  have aP : a ≠ tabA K nm := fun z => by
    rw [← z, ha] at hT
    cases hT
  have go : ∀ H : Hp, SqL K H a (ns.map V.int) → HOk P w H s.heap → H (tabA K nm) = some (.tbl #[]) → (∀ b u, H b = some u → (b = a ∧ ∃ o xs, u = .frz o xs) ∨ b = tabA K nm) → (H a ≠ none → K.lookup a = none) →
      codeAny (model P w) callerA (.call (.ref fa) ⟨[.ref a], []⟩) (fun r s' => r = .ok (.ret (.bool true)) ∧ OldK s.heap s'.heap ∧ s'.os = s.os ∧ AllBare s'.gens) s := by
    intro H hS ok hP hA hK
    have plain : ∀ {b : Addr} {o : Obj}, s.heap.get? b = some o → (∀ vs n, o.data ≠ .seq vs n) → o.data ≠ .fields #[] → H b = none := by
      intro b o e n1 n2
      cases q : H b with
      | none => rfl
      | some u =>
        rcases hA b u q with ⟨rfl, -⟩ | rfl
        · rw [ha] at e
          cases e
          exact (n1 _ _ rfl).elim
        · rw [hT] at e
          cases e
          exact (n2 rfl).elim
    have dict0 : ∀ {b : Addr} {o : Obj} {es : Array DictEntry} {ep : Nat}, s.heap.get? b = some o → o.data = .dict es ep → H b = none := fun {b o es ep} e d => plain e (fun vs n z => by rw [d] at z; cases z) fun z => by rw [d] at z; cases z
    have names : ∀ {b : Addr} {m : Str → Option Value}, s.heap.Ns b m → (L2.hidT s.heap H).Ns b m := fun {b m} ⟨o, es, ep, e, d, r⟩ => ⟨o, es, ep, hidT_get e (dict0 e d), d, r⟩
    have kin : K.In (L2.hidT s.heap H) := fun b o e => hidT_get (KX b o e) (by
      cases q : H b with
      | none => rfl
      | some u =>
        rcases hA b u q with ⟨rfl, -⟩ | rfl
        · rw [hK (by rw [q]; simp)] at e
          cases e
        · rw [nT] at e
          cases e)
    have md : L2.Mod K mg (L2.hidT s.heap H) := ⟨kin, names hns, ⟨mb, names hb, hbb⟩, let ⟨mc, h1, h2⟩ := hlim; ⟨mc, names h1, h2⟩⟩
    have tb : TabB (L2.hidT s.heap H) mg (He.codeOf K (nm, none)) (tabA K nm) := by
      refine ⟨?_, ?_, fun z => ?_⟩
      · obtain ⟨o, us, file, tf, flags, tg, inF, text, tt, e1, r1, r2, r3, r⟩ := C
        refine ⟨o, us, file, tf, flags, tg, inF, text, tt, hidT_get e1 (plain e1 (fun vs n z => ?_) fun z => ?_), r1, r2, r3, r⟩
        · rw [r2] at z; cases z
        · rw [r2] at z; cases z; simp at r3
      · obtain ⟨bm, ob, b1, b2, b3, b4, b5, b6⟩ := hbm
        have nG : bm ≠ mainGlobals := fun q => by
          obtain ⟨o, es, ep, e, hd, _⟩ := hns
          rw [q, e] at b3; cases b3
          rw [hd] at b6; cases b6
        have nP : bm ≠ tabA K nm := fun q => by
          rw [q, hT] at b3; cases b3; cases b6
        exact ⟨bm, ob, b1, b2, nG, nP, hidT_get b3 (plain b3 (fun vs n z => by rw [b6] at z; cases z) fun z => by rw [b6] at z; cases z), b4, b5, b6⟩
      · obtain ⟨o, es, ep, e, hd, _⟩ := hns
        rw [z, hT] at e; cases e; cases hd
    have e0 : Env0 P w K mg (L2.hidT s.heap H) callerA [] s H := ⟨rfl, md, fun b o e => of_hidT e, Nat.le_of_eq (hidT_size _ _), trivial, fun b hb => (List.not_mem_nil hb).elim, ok, .of_eq hg⟩
    refine codeAny_mono ((F _ tb).run callerA [] s H ⟨[.ref a], []⟩ [.ref a] [.ref a] _ _ hr rfl e0 (bind s (.ref a)) (.cons rfl .nil) (sp_lawT hn hS hP)) fun r s' h => ?_
    cases r with
    | error e =>
      obtain ⟨_, _, _, _, _, _, _, _, _, _, _, _, bad⟩ := (show L2.CX P w [] H s (fun _ _ _ => False) e s' from h)
      exact bad.elim
    | ok fl =>
      cases fl with
      | next => exact False.elim h
      | brk => exact False.elim h
      | cont => exact False.elim h
      | ret u =>
        obtain ⟨v, H', os, bare, un, ok', rv, q⟩ := h
        obtain rfl : v = .bl true := q
        obtain rfl : u = Value.bool true := rv
        have stays : ∀ b o, b ≠ tabA K nm → s.heap.get? b = some o → s'.heap.get? b = some o := fun b o nb e => by
          cases q : H b with
          | none => exact un.keep b o e q (fun z => (List.not_mem_nil z).elim) (by simp)
          | some u =>
            rcases hA b u q with ⟨rfl, ob, xs, rfl⟩ | z
            · obtain ⟨e1, _⟩ := ok b _ q
              obtain ⟨e2, _⟩ := ok' b _ (un.frzs b ob _ q)
              rw [e] at e1
              cases e1
              exact e2
            · exact absurd z nb
        obtain ⟨more, grown⟩ : ∃ more : Array Value, s'.heap.get? (tabA K nm) = some { cls := .none, data := .fields more } := by
          obtain ⟨more, z⟩ := un.tbls (tabA K nm) #[] hP
          exact ⟨_, ok' _ _ z⟩
        refine ⟨rfl, ⟨fun b o e => ?_, fun b o e => ?_⟩, os, bare⟩
        · by_cases hb : b = tabA K nm
          · rw [hb] at e ⊢
            rw [hT] at e
            cases e
            exact .inr (.inl ⟨(C.tab hT).isCodeTable, rfl, #[], more, rfl, by rw [Array.empty_append]; exact grown⟩)
          · exact .inl (stays b o hb e)
        · by_cases hb : b = tabA K nm
          · rw [hb]; exact ⟨_, grown⟩
          · exact ⟨o, stays b o hb e⟩
  cases hk : K.lookup a with
  | some o =>
    have e := KX a o hk
    rw [ha] at e
    cases e
    refine go (upd (fun _ => none) (tabA K nm) (.tbl #[])) (.inr ⟨_, vs.toArray, _, hk, rfl, rfl, rfl, by rw [List.size_toArray, same]; omega, by simpa using vals_ints hi⟩) (fun b u z => ?_) upd_same (fun b u z => .inr ?_) fun z => absurd (upd_ne aP) z
    · by_cases hb : b = tabA K nm
      · rw [hb, upd_same] at z; cases z; rw [hb]; exact hT
      · rw [upd_ne hb] at z; cases z
    · by_cases hb : b = tabA K nm
      · exact hb
      · rw [upd_ne hb] at z; cases z
  | none =>
    refine go (upd (only1 a vs ns) (tabA K nm) (.tbl #[])) (.inl (.inr ⟨_, (upd_ne aP).trans only1_at⟩)) (fun b u z => ?_) upd_same (fun b u z => ?_) fun _ => hk
    · by_cases hb : b = tabA K nm
      · rw [hb, upd_same] at z; cases z; rw [hb]; exact hT
      · rw [upd_ne hb] at z
        obtain rfl := only1_of z
        rw [only1_at] at z
        cases z
        exact ⟨ha, by rw [List.length_map]; omega, vs, _, vals_ints hi, ha⟩
    · by_cases hb : b = tabA K nm
      · exact .inr hb
      · rw [upd_ne hb] at z
        obtain rfl := only1_of z
        rw [only1_at] at z
        cases z
        exact .inl ⟨rfl, _, _, rfl⟩
/-! ### a head that also looks at such tables -/
def LamAt (h : Heap) (K : Frag) (nm : Str) : Prop := PySem.W.codeHdIn K (He.codeOf K (nm, none)) (tabA K nm) = true ∧ K.lookup (tabA K nm) = none ∧ h.get? (tabA K nm) = some { cls := .none, data := .fields #[] }
theorem walk_gT {l : PySem.W.OpenLaw} {n k : Nat} {q : Program} {loose : List Str} {XP : (Str → Option Value) → Heap → Prop} {YP : World → Heap → Prop} {d : DefRec} {x nm qn : Str} (hn : l.most = some n) (hn2 : n ≤ sizeLine) (hdf : d.params.defaults = []) (hr : Room k callerA)
    (F : ∀ (w : World) (mg : Str → Option Value) (fa : Addr) (h : Heap), YP w h → h.Ns mainGlobals mg → mg d.name = some (.ref fa) → ∃ (K : Frag) (fd : FuncData), K.In h ∧ LamAt h K nm ∧ (∀ (s : Shared) (u : Value), BindsTo s fd ⟨[u], []⟩ [(x, u)]) ∧
        ∀ base : Heap, TabB base mg (He.codeOf K (nm, none)) (tabA K nm) → FnG l.prog w K mg base (L2.CX l.prog w) k fa fd [x] (spD K (fLawT nm qn n))) :
    PySem.W.WalkO q loose XP YP l.row.toRowW d [] (fun f vs => PySem.call f vs) := by
  refine Att.attach_call hn hdf fun wd sA sB m1 m2 af ob pa co dc la us js Z1 Z2 z1 z2 z3 z4 z5 z6 z7 z8 => ?_
  obtain ⟨K, fd, q1, ⟨t1, t2, t3⟩, q2, q3⟩ := F wd m1 af _ Z2 Z1.T.g z4
  exact law_callTG q1 Z1.T.g Z1.T.b Z1.T.builtins Z1.T.nolimit z8 z5 z6 t3 t2 (PySem.W.codeHd_of_K q1 t1) Z1.T.bmain z7 hn2 hr q3 q2
/-! ### e is not None, as a value -/
section
variable {X : Cx} {E : XK} {K : Frag}
def dNotNX (i : Nat) : DE := fun ρ cs _ Q => match ρ[i]? with
  | some (.x _) => Q (.bool true) cs
  | some (.d x) => Q (.bool (!isNo x)) cs
  | _ => False
theorem q_notNX {a : Expr} {j : Nat} {p2 pos : Pos} (i : Nat) (ha : PE X a (tVar i)) (hm : behindInMarks .IsNot (.Constant .none j p2) = false := by first | exact nomark _ | rfl) : QE X E (.Compare a [.IsNot] [.Constant .none j p2] pos) (dNotNX i) := by
  refine ⟨_, pe_cmpR op_notN ha pe_non hm, fun as σ H ρ cs Ed Qd Q w ev ek h k => ?_⟩
  unfold dNotNX at h
  cases q : ρ[i]? with
  | none => rw [q] at h; exact h.elim
  | some s =>
    rw [q] at h
    obtain ⟨o, ho, hs⟩ := pr_get ev q
    cases s with
    | x nm =>
      obtain ⟨a, oe, rfl, h2, h3⟩ := hs
      exact ⟨_, ho, rfl, k _ H _ cs Ext.refl w (.bl _) h⟩
    | d x =>
      obtain ⟨v, rfl, hv⟩ := hs
      exact ⟨_, ho, rfl, by rw [isNo_eq hv]; exact k _ H _ cs Ext.refl w (.bl _) h⟩
    | _ => exact h.elim
end
end Kp

namespace Law
open PySem PySem.Spec PyProof.Rows L2 Kp
theorem nlE : ∀ d ∈ DsX, (d == ("LineError" : Str)) = false := by decide +kernel
structure Txt (K : Frag) (mg : Str → Option Value) : Prop where
  er : ErrF K mg DsX RsX ClX
  f_ValueError : mg "ValueError" = none
  f_abs : mg "abs" = none
  f_bool : mg "bool" = none
  f_int : mg "int" = none
  f_isinstance : mg "isinstance" = none
  f_len : mg "len" = none
  f_list : mg "list" = none
  f_max : mg "max" = none
  f_min : mg "min" = none
  f_range : mg "range" = none
  f_repr : mg "repr" = none
  f_tuple : mg "tuple" = none
  i_MOST_COME : ∃ t, mg "MOST_COME" = some (.int 9999 t)
  i_MOST_FACTOR : ∃ t, mg "MOST_FACTOR" = some (.int 999 t)
  i_MOST_MARK : ∃ t, mg "MOST_MARK" = some (.int 99 t)
  i_MOST_OLD : ∃ t, mg "MOST_OLD" = some (.int 99 t)
  i_MOST_PERIOD : ∃ t, mg "MOST_PERIOD" = some (.int 99 t)
  i_MOST_WAIT : ∃ t, mg "MOST_WAIT" = some (.int 1000000 t)
  i_WHOLE_SHARE : ∃ t, mg "WHOLE_SHARE" = some (.int 1000 t)

/-! ### the pot of draws -/
structure PotL (ds : List PyData) (B : Nat) : Prop where
  ex : ∃ a b c : Int, ds = [.int a, .int b, .int c] ∧ 0 ≤ a ∧ 0 ≤ b ∧ b < 2305843009213693951 ∧ 0 ≤ c ∧ c ≤ B
def PotAt (cs : CS) (j : Nat) (B : Nat) : Prop := ∃ ds, cs[j]? = some ds ∧ PotL ds B
/-- only the j-th cell has changed -/
def Chg (j : Nat) (cs cs' : CS) : Prop := cs'.length = cs.length ∧ ∀ i, i ≠ j → cs'[i]? = cs[i]?
theorem Chg.refl {j : Nat} {cs : CS} : Chg j cs cs := ⟨rfl, fun _ _ => rfl⟩
theorem Chg.trans {j : Nat} {a b c : CS} (h : Chg j a b) (k : Chg j b c) : Chg j a c := ⟨k.1.trans h.1, fun i hi => (k.2 i hi).trans (h.2 i hi)⟩
theorem Chg.set {j : Nat} {cs : CS} {ds : List PyData} : Chg j cs (cs.set j ds) := ⟨List.length_set, fun i hi => List.getElem?_set_ne (Ne.symm hi)⟩
theorem Chg.one {d : List PyData} {cs' : CS} (h : Chg 0 [d] cs') : ∃ d', cs' = [d'] := List.length_eq_one_iff.mp h.1
theorem Chg.cons {j : Nat} {a : List PyData} {cs cs' : CS} (h : Chg (1 + j) (a :: cs) cs') : ∃ cs2, cs' = a :: cs2 ∧ Chg j cs cs2 := by
  cases cs' with
  | nil => cases h.1
  | cons b r =>
    have h0 := h.2 0 (by omega)
    have e : b = a := Option.some.inj h0
    subst e
    refine ⟨r, rfl, by have := h.1; simpa using this, fun i hi => ?_⟩
    exact h.2 (i + 1) (by omega)
theorem PotAt.cons {j B : Nat} {a : List PyData} {cs : CS} (h : PotAt (a :: cs) (1 + j) B) : PotAt cs j B := by
  obtain ⟨ds, h1, h2⟩ := h
  rw [Nat.add_comm] at h1
  exact ⟨ds, h1, h2⟩
theorem PotAt.up {j B : Nat} {a : List PyData} {cs : CS} (h : PotAt cs j B) : PotAt (a :: cs) (1 + j) B := by
  obtain ⟨ds, h1, h2⟩ := h
  refine ⟨ds, ?_, h2⟩
  rw [Nat.add_comm]
  exact h1
theorem PotL.mono {ds : List PyData} {B C : Nat} (h : PotL ds B) (hc : B ≤ C) : PotL ds C := by
  obtain ⟨a, b, c, h1, h2, h3, h4, h5, h6⟩ := h.ex
  exact ⟨a, b, c, h1, h2, h3, h4, h5, by omega⟩
theorem PotAt.mono {j B C : Nat} {cs : CS} (h : PotAt cs j B) (hc : B ≤ C) : PotAt cs j C := by
  obtain ⟨ds, h1, h2⟩ := h
  exact ⟨ds, h1, h2.mono hc⟩

/-- is it a whole number, within -/
def isWh : PyData → Bool
  | .int _ => true
  | _ => false
def isWi (x : PyData) (lo hi : Int) : Bool := match x with
  | .int i => decide (lo ≤ i) && decide (i ≤ hi)
  | _ => false
theorem isWi_yes {i lo hi : Int} (h : lo ≤ i ∧ i ≤ hi) : isWi (.int i) lo hi = true := by
  show (decide (lo ≤ i) && decide (i ≤ hi)) = true
  rw [decide_eq_true h.1, decide_eq_true h.2] <;> rfl
/-- a share rule, its memory -/
structure Rl where
  m : Int
  p : Int
  u : Int
  t : Int
def Rl.d (r : Rl) : PyData := .tuple [.str "share", .int r.m, .int r.p, .int r.u, .int r.t]
structure Rl.Ok (r : Rl) : Prop where
  m : 1 ≤ r.m ∧ r.m ≤ 99
  p : 1 ≤ r.p ∧ r.p ≤ 99
  u : 0 ≤ r.u ∧ r.u ≤ 999
  t : 0 ≤ r.t ∧ r.t ≤ 999
structure Mm where
  ph : Int
  sh : Int
  old : Int
  tot : Int
def Mm.d (m : Mm) : PyData := .tuple [.int m.ph, .int m.sh, .int m.old, .int m.tot]
structure Mm.Ok (r : Rl) (m : Mm) : Prop where
  ph : 0 ≤ m.ph ∧ m.ph ≤ r.p - 1
  sh : 0 ≤ m.sh ∧ m.sh ≤ 1000
  old : 0 ≤ m.old ∧ m.old ≤ 99
  tot : 0 ≤ m.tot ∧ m.tot ≤ 999
/-- renewed: the share as it would be, cut -/
def near (w : Int) : Int := if 99 < w then 99 else w
def raw (r : Rl) (m : Mm) (w : Int) : Int := m.sh + r.u * (near w - r.m) + r.t * (near w - m.old)
def cut0 (s : Int) : Int := if (if 1000 < s then 1000 else s) > 0 then (if 1000 < s then 1000 else s) else 0
def renew (r : Rl) (m : Mm) (w : Int) : Mm := if 0 < m.ph then m else ⟨m.ph, cut0 (raw r m w), near w, m.tot⟩
theorem cut0_ok (s : Int) : 0 ≤ cut0 s ∧ cut0 s ≤ 1000 := by unfold cut0; split <;> split <;> omega
theorem near_ok {w : Int} (h : 0 ≤ w) : 0 ≤ near w ∧ near w ≤ 99 := by unfold near; split <;> omega
theorem renew_ok {r : Rl} {m : Mm} {w : Int} (h : m.Ok r) (hw : 0 ≤ w) : (renew r m w).Ok r := by
  unfold renew
  split
  · exact h
  · exact ⟨h.ph, cut0_ok _, near_ok hw, h.tot⟩
/-- one comes in -/
def come (m : Mm) : Mm := if 1000 ≤ m.tot + m.sh then { m with tot := m.tot + m.sh - 1000 } else { m with tot := m.tot + m.sh }
def hit (m : Mm) : Bool := decide (1000 ≤ m.tot + m.sh)
theorem come_ok {r : Rl} {m : Mm} (h : m.Ok r) : (come m).Ok r := by
  have h2 := h.sh
  have h3 := h.tot
  unfold come
  split
  · exact ⟨h.ph, h.sh, h.old, by show 0 ≤ m.tot + m.sh - 1000 ∧ m.tot + m.sh - 1000 ≤ 999; omega⟩
  · exact ⟨h.ph, h.sh, h.old, by show 0 ≤ m.tot + m.sh ∧ m.tot + m.sh ≤ 999; omega⟩
/-- a tick passes -/
def pass (r : Rl) (m : Mm) : Mm := { m with ph := (if m.ph = 0 then r.p else m.ph) - 1 }
theorem pass_ok {r : Rl} {m : Mm} (hr : r.Ok) (h : m.Ok r) : (pass r m).Ok r := by
  have h1 := h.ph
  have h2 := hr.p
  refine ⟨?_, h.sh, h.old, h.tot⟩
  show 0 ≤ (if m.ph = 0 then r.p else m.ph) - 1 ∧ (if m.ph = 0 then r.p else m.ph) - 1 ≤ r.p - 1
  split <;> omega
/-- so many come in: the memory behind, which of them are struck -/
def comeN (m : Mm) : Nat → Mm
  | 0 => m
  | n + 1 => come (comeN m n)
def hits (m : Mm) : Nat → List PyData
  | 0 => []
  | n + 1 => hits m n ++ (if hit (comeN m n) = true then [.int n] else [])
theorem comeN_ok {r : Rl} {m : Mm} (h : m.Ok r) : ∀ n, (comeN m n).Ok r
  | 0 => h
  | n + 1 => come_ok (comeN_ok h n)
theorem hits_len (m : Mm) : ∀ n, (hits m n).length ≤ n
  | 0 => Nat.le_refl _
  | n + 1 => by
    unfold hits
    rw [List.length_append]
    have := hits_len m n
    split
    · simp; omega
    · simp; omega

structure Lr where
  m : Int
  sp : Int
def Lr.d (r : Lr) : PyData := .tuple [.str "late", .int r.m, .int r.sp]
structure Lr.Ok (r : Lr) : Prop where
  m : 1 ≤ r.m ∧ r.m ≤ 99
  sp : 1 ≤ r.sp ∧ r.sp ≤ 99
/-- a number or None -/
def oD : Option Int → PyData
  | none => .none
  | some i => .int i
structure Lm where
  age : Option Int
  left : Option Int
  cnt : Int
def Lm.d (m : Lm) : PyData := .tuple [oD m.age, oD m.left, .int m.cnt]
structure Lm.Ok (r : Lr) (m : Lm) : Prop where
  cnt : 0 ≤ m.cnt ∧ m.cnt ≤ r.sp * r.sp
  age : ∀ a, m.age = some a → 0 ≤ a ∧ a ≤ r.sp
  left : ∀ l, m.left = some l → m.age = some r.sp ∧ 0 ≤ l ∧ l ≤ r.sp
def gapI (sp c : Int) : Int := ((Float64.isqrt (sp * sp / c).toNat : Nat) : Int)
theorem sq_ok {sp : Int} (h : 1 ≤ sp ∧ sp ≤ 99) : 1 ≤ sp * sp ∧ sp * sp ≤ 9801 := by
  have a : 1 * 1 ≤ sp * sp := Int.mul_le_mul h.1 h.1 (by decide) (by omega)
  have b : sp * sp ≤ 99 * 99 := Int.mul_le_mul h.2 h.2 (by omega) (by decide)
  omega
theorem div_in {a c : Int} (ha : 0 ≤ a) (hc : 1 ≤ c) : 0 ≤ a / c ∧ a / c ≤ a := ⟨Int.ediv_nonneg ha (by omega), Int.ediv_le_self _ ha⟩
theorem gapI_ok {sp c : Int} (h : 1 ≤ sp ∧ sp ≤ 99) (hc : 1 ≤ c) : 0 ≤ gapI sp c ∧ gapI sp c ≤ sp := by
  obtain ⟨s1, s2⟩ := sq_ok h
  obtain ⟨d1, d2⟩ := div_in (a := sp * sp) (by omega) hc
  obtain ⟨i1, -⟩ := isq_small (sp * sp / c).toNat (by omega)
  unfold gapI
  refine ⟨by omega, ?_⟩
  generalize hz : Float64.isqrt (sp * sp / c).toNat = z at *
  rcases Int.lt_or_le sp (z : Int) with q | q
  · have e : (sp + 1) * (sp + 1) ≤ (z : Int) * z := Int.mul_le_mul (by omega) (by omega) (by omega) (by omega)
    have e2 : (sp + 1) * (sp + 1) = sp * sp + sp + sp + 1 := by rw [Int.mul_add, Int.add_mul, Int.mul_one, Int.one_mul]; omega
    have e3 : ((z * z : Nat) : Int) = (z : Int) * z := Int.natCast_mul z z
    omega
  · exact q
/-- a head of a wait is looked at -/
def look (r : Lr) (m : Lm) (w : Int) (al : Bool) : Lm × Bool := if w < r.m ∨ al = true then (⟨none, none, m.cnt⟩, false) else match m.age with
  | none => (⟨some 0, none, m.cnt⟩, false)
  | some a => if a < r.sp then (m, false) else match m.left with
    | none => (⟨some r.sp, some (gapI r.sp (m.cnt / 2 + 1)), m.cnt / 2 + 1⟩, true)
    | some l => if 0 < l then (m, false) else (⟨some r.sp, some (gapI r.sp (if r.sp * r.sp < m.cnt + 1 then r.sp * r.sp else m.cnt + 1)), (if r.sp * r.sp < m.cnt + 1 then r.sp * r.sp else m.cnt + 1)⟩, true)
theorem look_ok {r : Lr} {m : Lm} {w : Int} {al : Bool} (hr : r.Ok) (h : m.Ok r) : (look r m w al).1.Ok r := by
  have s := sq_ok hr.sp
  have c := h.cnt
  have hs := hr.sp
  unfold look
  split
  · exact ⟨c, nofun, nofun⟩
  · split
    · refine ⟨c, ?_, nofun⟩
      rintro a ⟨⟩
      omega
    · split
      · exact h
      · split
        · refine ⟨by show 0 ≤ m.cnt / 2 + 1 ∧ m.cnt / 2 + 1 ≤ r.sp * r.sp; omega, ?_, ?_⟩
          · rintro a ⟨⟩; omega
          · rintro l ⟨⟩; exact ⟨rfl, gapI_ok hs (by omega)⟩
        · split
          · exact h
          · refine ⟨?_, ?_, ?_⟩
            · show 0 ≤ (if r.sp * r.sp < m.cnt + 1 then r.sp * r.sp else m.cnt + 1) ∧ (if r.sp * r.sp < m.cnt + 1 then r.sp * r.sp else m.cnt + 1) ≤ r.sp * r.sp
              split <;> omega
            · rintro a ⟨⟩; omega
            · rintro l ⟨⟩
              refine ⟨rfl, gapI_ok hs ?_⟩
              split <;> omega
/-- a tick passes -/
def lpass (r : Lr) (m : Lm) : Lm := ⟨m.age.map fun a => if r.sp < a + 1 then r.sp else a + 1, m.left.map fun l => if 0 > l - 1 then 0 else l - 1, m.cnt⟩
theorem lpass_ok {r : Lr} {m : Lm} (hr : r.Ok) (h : m.Ok r) : (lpass r m).Ok r := by
  have hs := hr.sp
  refine ⟨h.cnt, ?_, ?_⟩
  · intro a ha
    unfold lpass at ha
    cases q : m.age with
    | none => rw [q] at ha; cases ha
    | some b =>
      rw [q] at ha
      cases ha
      have := h.age b q
      show 0 ≤ (if r.sp < b + 1 then r.sp else b + 1) ∧ (if r.sp < b + 1 then r.sp else b + 1) ≤ r.sp
      split <;> omega
  · intro l hl
    unfold lpass at hl
    cases q : m.left with
    | none => rw [q] at hl; cases hl
    | some b =>
      rw [q] at hl
      cases hl
      obtain ⟨z1, z2, z3⟩ := h.left b q
      refine ⟨?_, by show 0 ≤ (if 0 > b - 1 then 0 else b - 1); split <;> omega, by show (if 0 > b - 1 then 0 else b - 1) ≤ r.sp; split <;> omega⟩
      show m.age.map _ = _
      rw [z1]
      show some (if r.sp < r.sp + 1 then r.sp else r.sp + 1) = some r.sp
      rw [if_pos (by omega)]

/-- the ticks in which a head that stays late is struck -/
def ltk (r : Lr) : Nat → Int
  | 0 => r.sp
  | n + 1 => ltk r n + gapI r.sp (if r.sp * r.sp < ((n + 1 : Nat) : Int) then r.sp * r.sp else ((n + 1 : Nat) : Int))
def lts (r : Lr) : Nat → List PyData
  | 0 => []
  | n + 1 => lts r n ++ [.int (ltk r n)]
theorem lts_len (r : Lr) : ∀ n, (lts r n).length = n
  | 0 => rfl
  | n + 1 => by
    show (lts r n ++ [_]).length = n + 1
    rw [List.length_append, lts_len r n]; rfl

/-! ### rules of any kind, their memories -/
inductive Ru where
  | none | late (r : Lr) | share (r : Rl)
inductive Me where
  | none | late (m : Lm) | share (m : Mm)
def Ru.d : Ru → PyData
  | .none => .tuple [.str "none"]
  | .late r => r.d
  | .share r => r.d
def Ru.Ok : Ru → Prop
  | .none => True
  | .late r => r.Ok
  | .share r => r.Ok
def Lm.l (m : Lm) : List PyData := [oD m.age, oD m.left, .int m.cnt]
def Mm.l (m : Mm) : List PyData := [.int m.ph, .int m.sh, .int m.old, .int m.tot]
def Me.l : Me → List PyData
  | .none => []
  | .late m => m.l
  | .share m => m.l
def Me.d (M : Me) : PyData := .tuple M.l
inductive RM : Ru → Me → Prop
  | none : RM .none .none
  | late {r : Lr} {m : Lm} : r.Ok → m.Ok r → RM (.late r) (.late m)
  | share {r : Rl} {m : Mm} : r.Ok → m.Ok r → RM (.share r) (.share m)
theorem RM.ok {R : Ru} {M : Me} (h : RM R M) : R.Ok := by
  cases h with
  | none => trivial
  | late hr hm => exact hr
  | share hr hm => exact hr
def Ru.isL : Ru → Bool
  | .late _ => true
  | _ => false
def Ru.isS : Ru → Bool
  | .share _ => true
  | _ => false
def firstM : Ru → Me
  | .none => .none
  | .late _ => .late ⟨none, none, 0⟩
  | .share _ => .share ⟨0, 0, 0, 0⟩
theorem firstM_ok {R : Ru} (h : R.Ok) : RM R (firstM R) := by
  cases R with
  | none => exact .none
  | late r =>
    have hr : r.Ok := h
    have s := sq_ok hr.sp
    exact .late hr ⟨⟨by decide, by show (0 : Int) ≤ r.sp * r.sp; omega⟩, nofun, nofun⟩
  | share r =>
    have hr : r.Ok := h
    have p := hr.p
    exact .share hr ⟨⟨by decide, by show (0 : Int) ≤ r.p - 1; omega⟩, by decide, by decide, by decide⟩
def lookR (R : Ru) (M : Me) (w : Int) (al : Bool) : Me × Bool := match R, M with
  | .late r, .late m => (.late (look r m w al).1, (look r m w al).2)
  | _, M => (M, false)
def comeR (M : Me) : Me × Bool := match M with
  | .share m => (.share (come m), hit m)
  | M => (M, false)
def renewR (R : Ru) (M : Me) (w : Int) : Me := match R, M with
  | .share r, .share m => .share (renew r m w)
  | _, M => M
def passR (R : Ru) (M : Me) : Me := match R, M with
  | .late r, .late m => .late (lpass r m)
  | .share r, .share m => .share (pass r m)
  | _, M => M
theorem lookR_ok {R : Ru} {M : Me} {w : Int} {al : Bool} (h : RM R M) : RM R (lookR R M w al).1 := by
  cases h with
  | none => exact .none
  | late hr hm => exact .late hr (look_ok hr hm)
  | share hr hm => exact .share hr hm
theorem comeR_ok {R : Ru} {M : Me} (h : RM R M) : RM R (comeR M).1 := by
  cases h with
  | none => exact .none
  | late hr hm => exact .late hr hm
  | share hr hm => exact .share hr (come_ok hm)
theorem renewR_ok {R : Ru} {M : Me} {w : Int} (hw : 0 ≤ w) (h : RM R M) : RM R (renewR R M w) := by
  cases h with
  | none => exact .none
  | late hr hm => exact .late hr hm
  | share hr hm => exact .share hr (renew_ok hm hw)
theorem passR_ok {R : Ru} {M : Me} (h : RM R M) : RM R (passR R M) := by
  cases h with
  | none => exact .none
  | late hr hm => exact .late hr (lpass_ok hr hm)
  | share hr hm => exact .share hr (pass_ok hr hm)
theorem sLL : PyData.eqv (.str "late") (.str "late") = true := by decide +kernel
theorem sLS : PyData.eqv (.str "late") (.str "share") = false := by decide +kernel
theorem sSL : PyData.eqv (.str "share") (.str "late") = false := by decide +kernel
theorem sSS : PyData.eqv (.str "share") (.str "share") = true := by decide +kernel
theorem sNL : PyData.eqv (.str "none") (.str "late") = false := by decide +kernel
theorem sNS : PyData.eqv (.str "none") (.str "share") = false := by decide +kernel
theorem sNN : PyData.eqv (.str "none") (.str "none") = true := by decide +kernel
theorem sLN : PyData.eqv (.str "late") (.str "none") = false := by decide +kernel
theorem sSN : PyData.eqv (.str "share") (.str "none") = false := by decide +kernel
theorem shL : SeqAt.shaped (.str "late") = true := by decide +kernel
theorem shS : SeqAt.shaped (.str "share") = true := by decide +kernel
theorem shN : SeqAt.shaped (.str "none") = true := by decide +kernel

/-! ### any data: is it a rule, a memory -/
def isLateD : PyData → Bool
  | .tuple [w, m, s] => PyData.eqv w (.str "late") && (isWi m 1 99 && isWi s 1 99)
  | _ => false
def isShareD : PyData → Bool
  | .tuple [w, m, p, u, t] => PyData.eqv w (.str "share") && (isWi m 1 99 && (isWi p 1 99 && (isWi u 0 999 && isWi t 0 999)))
  | _ => false
def isRuleD (x : PyData) : Bool := isLateD x || (isShareD x || PyData.eqv x (.tuple [.str "none"]))
def fitsL (r : Lr) : PyData → Bool
  | .tuple [a, l, c] => isWi c 0 (r.sp * r.sp) && ((isNo a || isWi a 0 r.sp) && (isNo l || (PyData.eqv a (.int r.sp) && isWi l 0 r.sp)))
  | _ => false
def fitsS (r : Rl) : PyData → Bool
  | .tuple [a, b, c, d] => isWi a 0 (r.p - 1) && (isWi b 0 1000 && (isWi c 0 99 && isWi d 0 999))
  | _ => false
def fitsD : Ru → PyData → Bool
  | .none, x => PyData.eqv x (.tuple [])
  | .late r, x => fitsL r x
  | .share r, x => fitsS r x
theorem len3 {ds : List PyData} (h : ds.length = 3) : ∃ a b c, ds = [a, b, c] := by
  match ds, h with
  | [a, b, c], _ => exact ⟨a, b, c, rfl⟩
theorem len4 {ds : List PyData} (h : ds.length = 4) : ∃ a b c d, ds = [a, b, c, d] := by
  match ds, h with
  | [a, b, c, d], _ => exact ⟨a, b, c, d, rfl⟩
theorem len5 {ds : List PyData} (h : ds.length = 5) : ∃ a b c d e, ds = [a, b, c, d, e] := by
  match ds, h with
  | [a, b, c, d, e], _ => exact ⟨a, b, c, d, e, rfl⟩
theorem not3 {ds : List PyData} (h : ds.length ≠ 3) : isLateD (.tuple ds) = false := by
  unfold isLateD
  split
  · rename_i e; cases e; exact absurd rfl h
  · rfl
theorem not5 {ds : List PyData} (h : ds.length ≠ 5) : isShareD (.tuple ds) = false := by
  unfold isShareD
  split
  · rename_i e; cases e; exact absurd rfl h
  · rfl
theorem notL {r : Lr} {ds : List PyData} (h : ds.length ≠ 3) : fitsL r (.tuple ds) = false := by
  unfold fitsL
  split
  · rename_i e; cases e; exact absurd rfl h
  · rfl
theorem notS {r : Rl} {ds : List PyData} (h : ds.length ≠ 4) : fitsS r (.tuple ds) = false := by
  unfold fitsS
  split
  · rename_i e; cases e; exact absurd rfl h
  · rfl
theorem lenNe {n : Nat} {k : Int} (h : (n : Int) ≠ k) : PyData.eqv (.int (n : Int)) (.int k) = false := by rw [eqv_int]; exact decide_eq_false h
theorem lenEq {n : Nat} {k : Int} (h : (n : Int) = k) : PyData.eqv (.int (n : Int)) (.int k) = true := by rw [eqv_int]; exact decide_eq_true h
theorem Lr.isD {r : Lr} (h : r.Ok) : isLateD r.d = true := by
  show (PyData.eqv (.str "late") (.str "late") && (isWi (.int r.m) 1 99 && isWi (.int r.sp) 1 99)) = true
  rw [sLL, isWi_yes h.m, isWi_yes h.sp]; rfl
theorem Rl.isD {r : Rl} (h : r.Ok) : isShareD r.d = true := by
  show (PyData.eqv (.str "share") (.str "share") && (isWi (.int r.m) 1 99 && (isWi (.int r.p) 1 99 && (isWi (.int r.u) 0 999 && isWi (.int r.t) 0 999)))) = true
  rw [sSS, isWi_yes h.m, isWi_yes h.p, isWi_yes h.u, isWi_yes h.t]; rfl
theorem Ru.isD {R : Ru} (h : R.Ok) : isRuleD R.d = true := by
  cases R with
  | none => decide +kernel
  | late r => show (isLateD r.d || _) = true; rw [Lr.isD h]; rfl
  | share r => show (isLateD r.d || (isShareD r.d || _)) = true; rw [Rl.isD h, Bool.true_or, Bool.or_true]

/-- the greatest one whose square so often is no more -/
structure GapIs (s2 c : Int) (k f : Int) : Prop where
  lo : 1 ≤ f ∧ f ≤ k
  le : f * f * c ≤ s2
  up : ∀ z, f < z → z ≤ k → s2 < z * z * c
theorem gap_is {sp c f : Int} (hs : 1 ≤ sp ∧ sp ≤ 99) (hc : 1 ≤ c ∧ c ≤ sp * sp) (h : GapIs (sp * sp) c sp f) : f = gapI sp c := by
  obtain ⟨s1, s2⟩ := sq_ok hs
  obtain ⟨d1, d2⟩ := div_in (a := sp * sp) (c := c) (by omega) hc.1
  obtain ⟨g1, g2⟩ := gapI_ok hs hc.1
  obtain ⟨i1, i2⟩ := isq_small (sp * sp / c).toNat (by omega)
  have i1' : gapI sp c * gapI sp c ≤ sp * sp / c := by
    have e : ((Float64.isqrt (sp * sp / c).toNat * Float64.isqrt (sp * sp / c).toNat : Nat) : Int) = gapI sp c * gapI sp c := Int.natCast_mul _ _
    rw [← e]; omega
  have i2' : sp * sp / c < (gapI sp c + 1) * (gapI sp c + 1) := by
    have e : (((Float64.isqrt (sp * sp / c).toNat + 1) * (Float64.isqrt (sp * sp / c).toNat + 1) : Nat) : Int) = (gapI sp c + 1) * (gapI sp c + 1) := Int.natCast_mul _ _
    rw [← e]; omega
  have j1 : gapI sp c * gapI sp c * c ≤ sp * sp := (Int.le_ediv_iff_mul_le (by omega)).mp i1'
  have j2 : sp * sp < (gapI sp c + 1) * (gapI sp c + 1) * c := (Int.ediv_lt_iff_lt_mul (by omega)).mp i2'
  have := h.lo
  rcases Int.lt_trichotomy f (gapI sp c) with q | q | q
  · have := h.up _ q g2
    omega
  · exact q
  · have e1 : (gapI sp c + 1) * (gapI sp c + 1) ≤ f * f := Int.mul_le_mul (by omega) (by omega) (by omega) (by omega)
    have e2 : (gapI sp c + 1) * (gapI sp c + 1) * c ≤ f * f * c := Int.mul_le_mul_of_nonneg_right e1 (by omega)
    have := h.le
    omega

def clip (z : Int) : Int := if (if z < 1000 then z else 1000) > 0 then (if z < 1000 then z else 1000) else 0
theorem cut_clip (s : Int) : cut0 s = clip s := by unfold cut0 clip; split <;> split <;> split <;> omega
theorem set_same {cs : CS} {j : Nat} {x : List PyData} (h : cs[j]? = some x) : cs.set j x = cs := by
  obtain ⟨h1, h2⟩ := List.getElem?_eq_some_iff.mp h
  rw [← h2]
  exact List.set_getElem_self h1
theorem oD_shw {o : Option Int} {dp : Nat} (h : ∀ i, o = some i → i.natAbs < 10 ^ 12) : Shw (oD o) dp 40 := by
  cases o with
  | none => exact Shw.none
  | some i => exact Shw.int (h i rfl)
theorem Lm.shw {r : Lr} {m : Lm} (hr : r.Ok) (h : m.Ok r) : Shw m.d 1 200 := by
  have hs := hr.sp
  obtain ⟨s1, s2⟩ := sq_ok hs
  have hc := h.cnt
  have z := ((ShA.cons (dp := 0) (oD_shw (o := m.age) fun i hi => by have := h.age i hi; omega) (ShA.cons (oD_shw (o := m.left) fun i hi => by have := (h.left i hi).2; omega) (ShA.cons (Shw.int (i := m.cnt) (by omega)) (ShA.nil (w := 0)))))).tuple
  exact ⟨z.s, z.n, z.c, z.d, z.i, Nat.le_trans z.w (by decide)⟩

theorem PotAt.over {j i B : Nat} {x : List PyData} {cs : CS} (h : PotAt cs j B) (n : j ≠ i) : PotAt (cs.set i x) j B := by
  obtain ⟨ds, h1, h2⟩ := h
  exact ⟨ds, (List.getElem?_set_ne (Ne.symm n)).trans h1, h2⟩
theorem Me.shA {R : Ru} {M : Me} (h : RM R M) : ShA M.l 0 300 := by
  cases h with
  | none => exact ShA.nil
  | @late r m hr h =>
    have hs := hr.sp
    obtain ⟨s1, s2⟩ := sq_ok hs
    have hc := h.cnt
    have z := (ShA.cons (dp := 0) (oD_shw (o := m.age) fun i hi => by have := h.age i hi; omega) (ShA.cons (oD_shw (o := m.left) fun i hi => by have := (h.left i hi).2; omega) (ShA.cons (Shw.int (i := m.cnt) (by omega)) (ShA.nil (w := 0)))))
    exact ⟨z.s, z.n, z.c, z.d, z.i, Nat.le_trans z.w (by decide)⟩
  | @share r m hr h =>
    have h1 := h.ph
    have h2 := h.sh
    have h3 := h.old
    have h4 := h.tot
    have h5 := hr.p
    have z := ShA.cons (dp := 0) (Shw.int (i := m.ph) (by omega)) (ShA.cons (Shw.int (i := m.sh) (by omega)) (ShA.cons (Shw.int (i := m.old) (by omega)) (ShA.cons (Shw.int (i := m.tot) (by omega)) (ShA.nil (w := 0)))))
    exact ⟨z.s, z.n, z.c, z.d, z.i, Nat.le_trans z.w (by decide)⟩
theorem Me.shw {R : Ru} {M : Me} (h : RM R M) : showB M.d = true := (Me.shA h).tuple.show (by decide) (by decide)
theorem Me.shp {R : Ru} {M : Me} {b : Bool} (h : RM R M) : showB (.tuple [M.d, .bool b]) = true := by
  have z := (ShA.cons (dp := 1) (Me.shA h).tuple (ShA.cons (Shw.bool (b := b) (w := 0)) (ShA.nil (w := 0)))).tuple
  exact z.show (by decide) (by decide)

theorem at_any {ds : List PyData} {i : Int} (h0 : 0 ≤ i) (h1 : i < (ds.length : Int)) : ∃ d, atI ds i = some d := by
  have hi : i.toNat < ds.length := by omega
  exact ⟨ds[i.toNat], at_data h0 (List.getElem?_eq_getElem hi)⟩

/-! ### what may be shown, and is the word only where its text is the word's -/
def rokB : PyData → Bool
  | .bool _ => true
  | .none => true
  | .int i => decide (i.natAbs.log2 < 1920)
  | .str x => decide ((reprText x).length ≤ 100000)
  | .tuple xs => showB (.tuple xs) || shoE (.tuple xs)
  | .list xs => showB (.list xs)
  | .dict kvs => kvs.isEmpty
theorem rokB_ok {x : PyData} (h : rokB x = true) : RprOk x := by
  cases x with
  | bool b => trivial
  | none => trivial
  | int i =>
    show i.natAbs.log2 < 1920
    exact of_decide_eq_true h
  | str s => exact le_line (of_decide_eq_true h)
  | tuple xs => exact Bool.or_eq_true_iff.mp h
  | list xs => exact h
  | dict kvs => exact List.isEmpty_iff.mp h
def elB (w : Str) (y : PyData) : Bool := rokB y && (decide (rpr y ≠ rpr (.str w)) || (match y with
  | .str s => decide (s = w)
  | _ => false))
structure El (w : Str) (y : PyData) : Prop where
  r : RprOk y
  t : (rpr y == rpr (.str w)) = PyData.eqv y (.str w)
theorem eqv_str (a b : Str) : PyData.eqv (.str a) (.str b) = decide (a = b) := by
  have e : PyData.eqv (.str a) (.str b) = (a == b) := by simp only [PyData.eqv]
  rw [e]
  by_cases h : a = b
  · rw [decide_eq_true h, h]; exact beq_self_eq_true _
  · rw [decide_eq_false h]; exact beq_eq_false_iff_ne.mpr h
theorem elB_ok {w : Str} {y : PyData} (h : elB w y = true) : El w y := by
  obtain ⟨h1, h2⟩ := Bool.and_eq_true_iff.mp h
  refine ⟨rokB_ok h1, ?_⟩
  rcases Bool.or_eq_true_iff.mp h2 with z | z
  · have n := of_decide_eq_true z
    rw [beq_eq_false_iff_ne.mpr n]
    cases y with
    | str s =>
      rw [eqv_str, decide_eq_false]
      rintro rfl
      exact n rfl
    | _ => rfl
  · cases y with
    | str s =>
      have e := of_decide_eq_true z
      subst e
      rw [eqv_str, decide_eq_true rfl]
      exact beq_self_eq_true _
    | _ => cases z
/-- all that it holds, if it is a tuple -/
def Th (w : Str) (x : PyData) : Prop := ∀ ds, x = .tuple ds → ∀ y ∈ ds, El w y
theorem Th.of {w : Str} {ds : List PyData} (h : ∀ y ∈ ds, El w y) : Th w (.tuple ds) := fun ds' e => by cases e; exact h
theorem Th.no {w : Str} {x : PyData} (h : ∀ ds, x ≠ .tuple ds) : Th w x := fun ds e => absurd e (h ds)
theorem if_mid {dt : DT} {d1 d2 : DS} {Dd : DN} {ρ : List Sl} {cs : CS} (b : Bool) (ht : ∀ Qb : Bool → CS → Prop, Qb b cs → dt ρ cs Dd.ex Qb) (hb : if b = true then d1 Dd ρ cs else d2 Dd ρ cs) : dIfS dt d1 d2 Dd ρ cs := ht (fun b cs1 => if b = true then d1 Dd ρ cs1 else d2 Dd ρ cs1) hb
theorem dor_at {d1 d2 : DT} {ρ : List Sl} {cs : CS} {Ed : XD} {Q : Bool → CS → Prop} {b1 b2 : Bool} (h1 : ∀ Q' : Bool → CS → Prop, Q' b1 cs → d1 ρ cs Ed Q') (h2 : ∀ Q' : Bool → CS → Prop, Q' b2 cs → d2 ρ cs Ed Q') (h : Q (b1 || b2) cs) : dOr d1 d2 ρ cs Ed Q := h1 _ (by
  cases b1 with
  | true => exact h
  | false => exact h2 _ h)
theorem q_to {Q' : Bool → CS → Prop} {b : Bool} {cs : CS} (e : b = false) (q : Q' false cs) : Q' b cs := by rw [e]; exact q
theorem vand_t {a b : DE} {ρ : List Sl} {cs : CS} {Ed : XD} {Q : PyData → CS → Prop} (h1 : ∀ Q' : PyData → CS → Prop, Q' (.bool true) cs → a ρ cs Ed Q') (h2 : b ρ cs Ed Q) : dVand a b ρ cs Ed Q := h1 _ (by
  show if true = true then b ρ cs Ed Q else Q (.bool false) cs
  rw [if_pos rfl]
  exact h2)
theorem vand_f {a b : DE} {ρ : List Sl} {cs : CS} {Ed : XD} {Q : PyData → CS → Prop} (h1 : ∀ Q' : PyData → CS → Prop, Q' (.bool false) cs → a ρ cs Ed Q') (h2 : Q (.bool false) cs) : dVand a b ρ cs Ed Q := h1 _ (by
  show if false = true then b ρ cs Ed Q else Q (.bool false) cs
  rw [if_neg Bool.false_ne_true]
  exact h2)
theorem b_to {Q : PyData → CS → Prop} {b c : Bool} {cs : CS} (e : b = c) (q : Q (.bool c) cs) : Q (.bool b) cs := by rw [e]; exact q
theorem at_any2 {ds : List PyData} {i : Int} (h0 : 0 ≤ i) (h1 : i < (ds.length : Int)) : ∃ d, atI ds i = some d ∧ d ∈ ds := by
  have hi : i.toNat < ds.length := by omega
  exact ⟨ds[i.toNat], at_data h0 (List.getElem?_eq_getElem hi), List.getElem_mem hi⟩
theorem cut_len (ds : List PyData) (lo hi : Option Int) : (Kp.cutD ds lo hi).length ≤ ds.length := by
  unfold Kp.cutD
  rw [List.length_take, List.length_drop]
  omega
theorem cut_mem {ds : List PyData} {lo hi : Option Int} {x : PyData} (h : x ∈ Kp.cutD ds lo hi) : x ∈ ds := by
  unfold Kp.cutD at h
  exact List.mem_of_mem_drop (List.mem_of_mem_take h)
theorem mem3 {x y : PyData} {A B : List PyData} (h : x ∈ A ++ [y] ++ B) : x ∈ A ∨ x = y ∨ x ∈ B := by
  rcases List.mem_append.mp h with z | z
  · rcases List.mem_append.mp z with q | q
    · exact .inl q
    · exact .inr (.inl (List.mem_singleton.mp q))
  · exact .inr (.inr z)

def oddL : List PyData := [.int (-1), .int 0, .int 1, .int 2, .int 98, .int 99, .int 100, .int 999, .int 1000, .int 1001, .int 9801, .int 9999, .int 10000, .int (10 ^ (6 : Int).toNat), .int (10 ^ (6 : Int).toNat + 1), .int (10 ^ (39 : Int).toNat), .int (-10 ^ (39 : Int).toNat)] ++ [.bool true, .bool false, .none, .str "", .str "late", .str "share", .str "none", .str "0", .tuple [], .list [], .dict [], .tuple [.int 0], .list [.int 0], .tuple [.str "late", .int 5, .int 5]]
theorem odd_el : ∀ y ∈ oddL, El "share" y := fun y hy => elB_ok (List.all_eq_true.mp (by decide +kernel : (oddL.all (elB "share")) = true) y hy)
theorem odd_th : ∀ y ∈ oddL, Th "share" y := by
  have h : (oddL.all fun y => match y with
    | .tuple ds => ds.all (elB "share")
    | _ => true) = true := by decide +kernel
  intro y hy ds e
  subst e
  exact fun z hz => elB_ok (List.all_eq_true.mp (List.all_eq_true.mp h _ hy) z hz)
theorem int_el {i : Int} (h0 : 0 ≤ i) (h1 : i ≤ 1000) : El "share" (.int i) := by
  have h : ((List.range 1001).all fun n => elB "share" (.int (n : Int))) = true := by decide +kernel
  have := List.all_eq_true.mp h i.toNat (List.mem_range.mpr (by omega))
  rw [Int.toNat_of_nonneg h0] at this
  exact elB_ok this

/-! ### late rules of any data -/
theorem iw_inv {y : PyData} {lo hi : Int} (q : isWi y lo hi = true) : ∃ i, y = .int i ∧ lo ≤ i ∧ i ≤ hi := by
  cases y with
  | int i =>
    obtain ⟨a, b⟩ := Bool.and_eq_true_iff.mp (show (decide (lo ≤ i) && decide (i ≤ hi)) = true from q)
    exact ⟨i, rfl, of_decide_eq_true a, of_decide_eq_true b⟩
  | _ => cases q
theorem isLate_inv {x : PyData} (h : isLateD x = true) : ∃ r : Lr, x = r.d ∧ r.Ok := by
  unfold isLateD at h
  split at h
  · rename_i w m s
    obtain ⟨h1, h⟩ := Bool.and_eq_true_iff.mp h
    obtain ⟨h2, h3⟩ := Bool.and_eq_true_iff.mp h
    obtain ⟨m, rfl, hm⟩ := iw_inv h2
    obtain ⟨s, rfl, hs⟩ := iw_inv h3
    have ew : w = .str "late" := by
      cases w with
      | str s => rw [eqv_str] at h1; rw [of_decide_eq_true h1]
      | _ => cases h1
    subst ew
    exact ⟨⟨m, s⟩, rfl, ⟨hm, hs⟩⟩
  · cases h
theorem Lr.inj {r s : Lr} (h : r.d = s.d) : r = s := by
  obtain ⟨a, b⟩ := r
  obtain ⟨a2, b2⟩ := s
  have h := PyData.tuple.inj h
  simp only [List.cons.injEq, PyData.int.injEq, and_true, true_and] at h
  obtain ⟨rfl, rfl⟩ := h
  rfl
theorem Lr.th {r : Lr} (h : r.Ok) : ∀ y ∈ [PyData.str "late", .int r.m, .int r.sp], El "share" y := fun y hy => by
  have h1 := h.m
  have h2 := h.sp
  rcases List.mem_cons.mp hy with rfl | hy
  · exact elB_ok (by decide +kernel)
  rcases List.mem_cons.mp hy with rfl | hy
  · exact int_el (by omega) (by omega)
  rw [List.mem_singleton.mp hy]
  exact int_el (by omega) (by omega)
theorem Rl.th {r : Rl} (h : r.Ok) : ∀ y ∈ [PyData.str "share", .int r.m, .int r.p, .int r.u, .int r.t], El "share" y := fun y hy => by
  have h1 := h.m
  have h2 := h.p
  have h3 := h.u
  have h4 := h.t
  rcases List.mem_cons.mp hy with rfl | hy
  · exact elB_ok (by decide +kernel)
  rcases List.mem_cons.mp hy with rfl | hy
  · exact int_el (by omega) (by omega)
  rcases List.mem_cons.mp hy with rfl | hy
  · exact int_el (by omega) (by omega)
  rcases List.mem_cons.mp hy with rfl | hy
  · exact int_el (by omega) (by omega)
  rw [List.mem_singleton.mp hy]
  exact int_el (by omega) (by omega)

/-! ### share rules of any data -/
theorem isShare_inv {x : PyData} (h : isShareD x = true) : ∃ r : Rl, x = r.d ∧ r.Ok := by
  unfold isShareD at h
  split at h
  · rename_i w m p u t
    obtain ⟨h1, h⟩ := Bool.and_eq_true_iff.mp h
    obtain ⟨h2, h⟩ := Bool.and_eq_true_iff.mp h
    obtain ⟨h3, h⟩ := Bool.and_eq_true_iff.mp h
    obtain ⟨h4, h5⟩ := Bool.and_eq_true_iff.mp h
    have iw : ∀ {y : PyData} {lo hi : Int}, isWi y lo hi = true → ∃ i, y = .int i ∧ lo ≤ i ∧ i ≤ hi := fun {y lo hi} q => by
      cases y with
      | int i =>
        obtain ⟨a, b⟩ := Bool.and_eq_true_iff.mp (show (decide (lo ≤ i) && decide (i ≤ hi)) = true from q)
        exact ⟨i, rfl, of_decide_eq_true a, of_decide_eq_true b⟩
      | _ => cases q
    obtain ⟨m, rfl, hm⟩ := iw h2
    obtain ⟨p, rfl, hp⟩ := iw h3
    obtain ⟨u, rfl, hu⟩ := iw h4
    obtain ⟨t, rfl, ht⟩ := iw h5
    have ew : w = .str "share" := by
      cases w with
      | str s => rw [eqv_str] at h1; rw [of_decide_eq_true h1]
      | _ => cases h1
    subst ew
    exact ⟨⟨m, p, u, t⟩, rfl, ⟨hm, hp, hu, ht⟩⟩
  · cases h

/-! ### what is asked of a rule, of a memory, of a number -/
def perOf : PyData → Int
  | .tuple [_, _, .int p, _, _] => p
  | _ => 0
def fitsX (x y : PyData) : Bool := fitsS ⟨1, perOf x, 0, 0⟩ y
theorem fitsX_d (r : Rl) (y : PyData) : fitsX r.d y = fitsS r y := rfl
theorem fitsS_inv {r : Rl} {y : PyData} (h : fitsS r y = true) : ∃ m : Mm, y = m.d ∧ m.Ok r := by
  unfold fitsS at h
  split at h
  · rename_i a b c d
    obtain ⟨h1, h⟩ := Bool.and_eq_true_iff.mp h
    obtain ⟨h2, h⟩ := Bool.and_eq_true_iff.mp h
    obtain ⟨h3, h4⟩ := Bool.and_eq_true_iff.mp h
    obtain ⟨a, rfl, ha⟩ := iw_inv h1
    obtain ⟨b, rfl, hb⟩ := iw_inv h2
    obtain ⟨c, rfl, hc⟩ := iw_inv h3
    obtain ⟨d, rfl, hd⟩ := iw_inv h4
    exact ⟨⟨a, b, c, d⟩, rfl, ⟨ha, hb, hc, hd⟩⟩
  · cases h
theorem fitsS_ok {r : Rl} {m : Mm} (h : m.Ok r) : fitsS r m.d = true := by
  obtain ⟨a, b, c, d⟩ := m
  show (isWi (.int a) 0 (r.p - 1) && (isWi (.int b) 0 1000 && (isWi (.int c) 0 99 && isWi (.int d) 0 999))) = true
  rw [isWi_yes h.ph, isWi_yes h.sh, isWi_yes h.old, isWi_yes h.tot]; rfl
structure ShareP (x : PyData) (Ed : XD) (cs : CS) (A : Rl → Prop) : Prop where
  no : isShareD x = false → Ed "NoRule" cs
  ok : ∀ r : Rl, x = r.d → r.Ok → A r
structure MemP (r : Rl) (y : PyData) (Ed : XD) (cs : CS) (A : Mm → Prop) : Prop where
  no : fitsS r y = false → Ed "NoMemory" cs
  ok : ∀ m : Mm, y = m.d → m.Ok r → A m
structure NumP (z : PyData) (lo hi : Int) (Ed : XD) (cs : CS) (A : Int → Prop) : Prop where
  no : isWi z lo hi = false → Ed "NoNumber" cs
  ok : ∀ i, z = .int i → lo ≤ i ∧ i ≤ hi → A i
theorem NumP.of {i lo hi : Int} {Ed : XD} {cs : CS} {A : Int → Prop} (h : lo ≤ i ∧ i ≤ hi) (k : A i) : NumP (.int i) lo hi Ed cs A := by
  refine ⟨fun e => ?_, fun j e _ => ?_⟩
  · rw [isWi_yes h] at e; cases e
  · cases e; exact k
section
variable {P : Program} {w : World} {K : Frag} {mg : Str → Option Value} {base : Heap}
/-! is_whole -/
def f_is_whole : FD := fun ss cs _ Q => ∃ x, ss = [.d x] ∧ Q (.bool (isWh x)) cs
theorem sc_is_whole : FnScope ["thing"] ["thing"] (defScope s_is_whole) := ⟨rfl, rfl, rfl, by decide +kernel, rfl, by decide +kernel, by decide +kernel⟩
theorem ok_is_whole (T : Txt K mg) {a : Addr} {fd : FuncData} (F : FunD K "is_whole" "is_whole" (defArgs s_is_whole) (defBody s_is_whole) (defScope s_is_whole) [] [] a fd) (hb : Binds K fd ["thing"] []) (hm : mg "is_whole" = some (.ref a)) : Cal P w K mg base 1 "is_whole" ["thing"] f_is_whole := by
  refine cal_of F sc_is_whole hb hm (fun ss cs Ed Q h => ?_) (fun cdv A outer s H E hr => (q_sone (q_ret (q_vand (q_isi "int" (q_var 0) T.f_isinstance T.f_int (by decide +kernel)) (q_v1 (q_vnot (q_isi "bool" (q_var 0) T.f_isinstance T.f_bool (by decide +kernel)))))))) ?_
  · obtain ⟨_, rfl, _⟩ := h; rfl
  intro ss cs Ed Qd h
  obtain ⟨x, rfl, h⟩ := h
  cases x with
  | int i => exact ⟨true, rfl, false, rfl, h⟩
  | bool b => exact ⟨true, rfl, true, rfl, h⟩
  | _ => exact ⟨false, rfl, h⟩

/-! renew_share -/
def f_renew_share : FD := fun ss cs _ Q => ∃ (r : Rl) (m : Mm) (w : Int), ss = [.d r.d, .d m.d, .d (.int w)] ∧ r.Ok ∧ m.Ok r ∧ (0 ≤ w ∧ w ≤ 1000000) ∧ Q (renew r m w).d cs
theorem sc_renew_share : FnScope ["rule", "memory", "wait", "phase", "share", "old", "total", "mark", "up", "turn", "told"] ["rule", "memory", "wait"] (defScope s_renew_share) := ⟨rfl, rfl, rfl, by decide +kernel, rfl, by decide +kernel, by decide +kernel⟩
theorem ok_renew_share (T : Txt K mg) {a : Addr} {fd : FuncData} (F : FunD K "renew_share" "renew_share" (defArgs s_renew_share) (defBody s_renew_share) (defScope s_renew_share) [] [] a fd) (hb : Binds K fd ["rule", "memory", "wait"] []) (hm : mg "renew_share" = some (.ref a)) : Cal P w K mg base 1 "renew_share" ["rule", "memory", "wait"] f_renew_share := by
  refine cal_of F sc_renew_share hb hm (fun ss cs Ed Q h => ?_) (fun cdv A outer s H E hr => (q_scons (q_unp [3, 4, 5, 6] rfl (pgs_cons (pg_name (i := 3) sc_renew_share.nd rfl (by first | exact Or.inl rfl | exact Or.inr rfl)) (pgs_cons (pg_name (i := 4) sc_renew_share.nd rfl (by first | exact Or.inl rfl | exact Or.inr rfl)) (pgs_cons (pg_name (i := 5) sc_renew_share.nd rfl (by first | exact Or.inl rfl | exact Or.inr rfl)) (pgs_cons (pg_name (i := 6) sc_renew_share.nd rfl (by first | exact Or.inl rfl | exact Or.inr rfl)) pgs_nil)))) (q_var 1))
      (q_scons (q_ifS (q_tcmp op_gt sr_gt (q_var 3) q_int)
      (q_sone (q_retV 1 (pv 1)))
      q_snil)
      (q_scons (q_par3 (i := 7) (j := 8) (l := 9) rfl sc_renew_share.nd (q_cons (q_ixV 0 (pv 0) q_int) (q_cons (q_ixV 0 (pv 0) q_int) (q_cons (q_ixV 0 (pv 0) q_int) q_nil))))
      (q_scons (q_set 10 sc_renew_share.nd (q_cb (call_min2 rfl) sc_min2 T.f_min (by decide +kernel) (q_consV 2 (pv 2) (q_cons (q_globI T.i_MOST_OLD) q_nil))))
      (q_scons (q_set 4 sc_renew_share.nd (q_bin op_plus sr_plus (q_bin op_plus sr_plus (q_var 4) (q_bin op_times sr_times (q_var 8) (q_bin op_sub sr_sub (q_var 10) (q_var 7)))) (q_bin op_times sr_times (q_var 9) (q_bin op_sub sr_sub (q_var 10) (q_var 5)))))
      (q_sone (q_ret (q_tup (q_consV 3 (pv 3) (q_cons (q_cb (call_max2 rfl) sc_max2 T.f_max (by decide +kernel) (q_cons q_int (q_cons (q_cb (call_min2 rfl) sc_min2 T.f_min (by decide +kernel) (q_consV 4 (pv 4) (q_cons (q_globI T.i_WHOLE_SHARE) q_nil))) q_nil))) (q_consV 10 (pv 10) (q_consV 6 (pv 6) q_nil))))))))))))) ?_
  · obtain ⟨_, _, _, rfl, _⟩ := h; rfl
  intro ss cs Ed Qd h
  obtain ⟨r, m, w, rfl, hr, hm, hw, h⟩ := h
  refine ⟨_, rfl, ?_⟩
  have h1 := hr.u
  have h2 := hr.t
  unfold renew at h
  refine ifD2 (fun c => ?_) fun c => ?_
  · rw [if_pos c] at h
    exact h
  · rw [if_neg c] at h
    refine ⟨rfl, _, _, rfl, rfl, rfl, _, _, rfl, rfl, rfl, _, _, rfl, rfl, _, rfl, ?_⟩
    refine ⟨.inl ⟨by omega, by omega⟩, .inl ⟨by omega, by omega⟩, le_line (show 4 ≤ 100000 by decide), ?_⟩
    exact h

/-! come_share -/
def f_come_share : FD := fun ss cs _ Q => ∃ (r : Rl) (m : Mm), ss = [.d m.d] ∧ m.Ok r ∧ Q (.tuple [(come m).d, .bool (hit m)]) cs
theorem sc_come_share : FnScope ["memory", "phase", "share", "old", "total"] ["memory"] (defScope s_come_share) := ⟨rfl, rfl, rfl, by decide +kernel, rfl, by decide +kernel, by decide +kernel⟩
theorem ok_come_share (T : Txt K mg) {a : Addr} {fd : FuncData} (F : FunD K "come_share" "come_share" (defArgs s_come_share) (defBody s_come_share) (defScope s_come_share) [] [] a fd) (hb : Binds K fd ["memory"] []) (hm : mg "come_share" = some (.ref a)) : Cal P w K mg base 1 "come_share" ["memory"] f_come_share := by
  refine cal_of F sc_come_share hb hm (fun ss cs Ed Q h => ?_) (fun cdv A outer s H E hr => (q_scons (q_unp [1, 2, 3, 4] rfl (pgs_cons (pg_name (i := 1) sc_come_share.nd rfl (by first | exact Or.inl rfl | exact Or.inr rfl)) (pgs_cons (pg_name (i := 2) sc_come_share.nd rfl (by first | exact Or.inl rfl | exact Or.inr rfl)) (pgs_cons (pg_name (i := 3) sc_come_share.nd rfl (by first | exact Or.inl rfl | exact Or.inr rfl)) (pgs_cons (pg_name (i := 4) sc_come_share.nd rfl (by first | exact Or.inl rfl | exact Or.inr rfl)) pgs_nil)))) (q_var 0))
      (q_scons (q_set 4 sc_come_share.nd (q_bin op_plus sr_plus (q_var 4) (q_var 2)))
      (q_scons (q_ifS (q_tcmp op_ge sr_ge (q_var 4) (q_globI T.i_WHOLE_SHARE))
      (q_sone (q_ret (q_tup (q_cons (q_tup (q_consV 1 (pv 1) (q_consV 2 (pv 2) (q_consV 3 (pv 3) (q_cons (q_bin op_sub sr_sub (q_var 4) (q_globI T.i_WHOLE_SHARE)) q_nil))))) (q_cons q_bl q_nil)))))
      q_snil)
      (q_sone (q_ret (q_tup (q_cons (q_tup (q_consV 1 (pv 1) (q_consV 2 (pv 2) (q_consV 3 (pv 3) (q_consV 4 (pv 4) q_nil))))) (q_cons q_bl q_nil))))))))) ?_
  · obtain ⟨_, _, rfl, _⟩ := h; rfl
  intro ss cs Ed Qd h
  obtain ⟨r, m, rfl, hm, h⟩ := h
  refine ⟨_, rfl, ?_⟩
  unfold come hit at h
  refine ifD2 (fun c => ?_) fun c => ?_
  · have c' : 1000 ≤ m.tot + m.sh := c
    rw [if_pos c', decide_eq_true c'] at h
    exact ⟨le_line (show 4 ≤ 100000 by decide), le_line (show 2 ≤ 100000 by decide), h⟩
  · have c' : ¬ 1000 ≤ m.tot + m.sh := c
    rw [if_neg c', decide_eq_false c'] at h
    exact ⟨le_line (show 4 ≤ 100000 by decide), le_line (show 2 ≤ 100000 by decide), h⟩

/-! pass_share -/
def f_pass_share : FD := fun ss cs _ Q => ∃ (r : Rl) (m : Mm), ss = [.d r.d, .d m.d] ∧ Q (pass r m).d cs
theorem sc_pass_share : FnScope ["rule", "memory", "phase", "share", "old", "total"] ["rule", "memory"] (defScope s_pass_share) := ⟨rfl, rfl, rfl, by decide +kernel, rfl, by decide +kernel, by decide +kernel⟩
theorem ok_pass_share (T : Txt K mg) {a : Addr} {fd : FuncData} (F : FunD K "pass_share" "pass_share" (defArgs s_pass_share) (defBody s_pass_share) (defScope s_pass_share) [] [] a fd) (hb : Binds K fd ["rule", "memory"] []) (hm : mg "pass_share" = some (.ref a)) : Cal P w K mg base 1 "pass_share" ["rule", "memory"] f_pass_share := by
  refine cal_of F sc_pass_share hb hm (fun ss cs Ed Q h => ?_) (fun cdv A outer s H E hr => (q_scons (q_unp [2, 3, 4, 5] rfl (pgs_cons (pg_name (i := 2) sc_pass_share.nd rfl (by first | exact Or.inl rfl | exact Or.inr rfl)) (pgs_cons (pg_name (i := 3) sc_pass_share.nd rfl (by first | exact Or.inl rfl | exact Or.inr rfl)) (pgs_cons (pg_name (i := 4) sc_pass_share.nd rfl (by first | exact Or.inl rfl | exact Or.inr rfl)) (pgs_cons (pg_name (i := 5) sc_pass_share.nd rfl (by first | exact Or.inl rfl | exact Or.inr rfl)) pgs_nil)))) (q_var 1))
      (q_scons (q_ifS (q_tcmp (op_eqD hr.units) sr_eq (q_var 2) q_int)
      (q_sone (q_set 2 sc_pass_share.nd (q_ixV 0 (pv 0) q_int)))
      q_snil)
      (q_sone (q_ret (q_tup (q_cons (q_bin op_sub sr_sub (q_var 2) q_int) (q_consV 3 (pv 3) (q_consV 4 (pv 4) (q_consV 5 (pv 5) q_nil)))))))))) ?_
  · obtain ⟨_, _, rfl, _⟩ := h; rfl
  intro ss cs Ed Qd h
  obtain ⟨r, m, rfl, h⟩ := h
  refine ⟨_, rfl, rfl, rfl, ?_⟩
  unfold pass at h
  refine if2 (fun c => ?_) fun c => ?_
  · rw [eqv_int] at c
    rw [if_pos (dT' c)] at h
    exact ⟨rfl, _, _, rfl, rfl, le_line (show 4 ≤ 100000 by decide), h⟩
  · rw [eqv_int] at c
    rw [if_neg (dF' c)] at h
    exact ⟨le_line (show 4 ≤ 100000 by decide), h⟩

/-! _law_pot -/
def f_law_pot : FN := fun ss cs _ Q => ∃ (s : Sl) (ns : List Int) (k : Int), ss = [s, .d (.int k)] ∧ s ≠ .no ∧ itemsOf cs (some s) = some (ns.map .int) ∧ (0 ≤ k ∧ k ≤ 1000) ∧ ∀ ds, PotL ds 0 → Q ds cs
theorem sc_law_pot : FnScope ["script", "k", "cell", "mixed"] ["script", "k"] (defScope s_law_pot) := ⟨rfl, rfl, rfl, by decide +kernel, rfl, by decide +kernel, by decide +kernel⟩
theorem ok_law_pot (T : Txt K mg) {a : Addr} {fd : FuncData} (F : FunD K "_law_pot" "_law_pot" (defArgs s_law_pot) (defBody s_law_pot) (defScope s_law_pot) [] [] a fd) (hb : Binds K fd ["script", "k"] []) (hm : mg "_law_pot" = some (.ref a)) : CalN P w K mg base 1 "_law_pot" ["script", "k"] f_law_pot := by
  refine calN_of F sc_law_pot hb hm (fun ss cs Ed Q h => ?_) (fun cdv A outer s H E hr => (q_scons (q_set 2 sc_law_pot.nd q_int)
      (q_scons (q_ifS (q_tcmp op_lt sr_lt (q_var 1) (q_lenV 0 (pv 0) T.f_len))
      (q_sone (q_set 2 sc_law_pot.nd (q_bin op_mod sr_mod (q_cb call_abs sc_abs T.f_abs (by decide +kernel) (q_cons (q_ixV 0 (pv 0) (q_var 1)) q_nil)) (q_bin op_powW sr_powW (q_bin op_powW sr_powW q_int q_int) q_int))))
      q_snil)
      (q_scons (q_set 3 sc_law_pot.nd (q_bin op_mod sr_mod (q_bin op_powW sr_powW (q_bin op_plus sr_plus (q_bin op_plus sr_plus (q_bin op_mod sr_mod (q_var 2) q_int) (q_bin op_times sr_times q_int (q_var 1))) q_int) q_int) q_int))
      (q_sone (q_retL (q_nlst (q_cons (q_bin op_times sr_times (q_var 2) (q_ct call_int1 sc_int T.f_int (by decide +kernel) (q_cons (q_cmp op_ge sr_ge (q_var 2) (q_bin op_powW sr_powW q_int q_int)) q_nil))) (q_consV 3 (pv 3) (q_cons q_int q_nil)))))))))) ?_
  · obtain ⟨_, _, _, rfl, _⟩ := h; rfl
  intro ss cs Ed Qd h
  obtain ⟨s, ns, k, rfl, hs, hi, hk, h⟩ := h
  -- behind the cell: mixed, the pot
  have fin : ∀ cell : Int, 0 ≤ cell → dSeq (dSet 3 (dOp (dI (fun _ j => 0 < j) fun i j => .int (i % j)) (dOp (dI CPowW fun i j => .int (i ^ j.toNat)) (dOp dPlus (dOp dPlus (dOp (dI (fun _ j => 0 < j) fun i j => .int (i % j)) (dVar 2) (dC (.int 2147483629))) (dOp dTimes (dC (.int 7919)) (dVar 1))) (dC (.int 1))) (dC (.int 5))) (dC (.int 2305843009213693951))))
      (dRetL (dNlst (dCons (dOp dTimes (dVar 2) (dCB cInt (dCons (dOp (dI0 fun i j => .bool (decide (j ≤ i))) (dVar 2) (dOp (dI CPowW fun i j => .int (i ^ j.toNat)) (dC (.int 10)) (dC (.int 18)))) dNil))) (dConsV 3 (dCons (dC (.int 0)) dNil)))))
      (DN0 (fun _ _ => False) Qd Ed) [s, .d (.int k), .d (.int cell), .no] cs := fun cell hc => by
    have h1 : 0 ≤ cell % 2147483629 := Int.emod_nonneg _ (by decide)
    have h2 : cell % 2147483629 < 2147483629 := Int.emod_lt_of_pos _ (by decide)
    have h3 : 0 ≤ (cell % 2147483629 + 7919 * k + 1) ^ (5 : Int).toNat % 2305843009213693951 := Int.emod_nonneg _ (by decide)
    have h4 : (cell % 2147483629 + 7919 * k + 1) ^ (5 : Int).toNat % 2305843009213693951 < 2305843009213693951 := Int.emod_lt_of_pos _ (by decide)
    refine ⟨(show (0 : Int) < 2147483629 by decide), .inl ⟨by decide, by decide⟩, powW_of (by omega) (by omega) (by decide) (by decide), (show (0 : Int) < 2305843009213693951 by decide), ?_⟩
    refine ⟨⟨by decide, by decide +kernel⟩, .inr ?_, le_line (show 3 ≤ 100000 by decide), ?_⟩
    · show -(2 ^ 64) < (if decide ((10 : Int) ^ (18 : Int).toNat ≤ cell) = true then (1 : Int) else 0) ∧ (if decide ((10 : Int) ^ (18 : Int).toNat ≤ cell) = true then (1 : Int) else 0) < 2 ^ 64
      split <;> exact ⟨by decide, by decide⟩
    · refine h _ ⟨⟨_, _, 0, rfl, ?_, h3, h4, by decide, by decide⟩⟩
      show 0 ≤ cell * (if decide ((10 : Int) ^ (18 : Int).toNat ≤ cell) = true then (1 : Int) else 0)
      split
      · omega
      · omega
  refine ⟨_, hi, ?_⟩
  show (if decide (k < ((ns.map PyData.int).length : Int)) = true then _ else _)
  refine ifD2 (fun hlt => ?_) fun _ => fin 0 (by decide)
  rw [List.length_map] at hlt
  have hn : k.toNat < ns.length := by omega
  have hat : atI (ns.map PyData.int) k = some (.int ns[k.toNat]) := at_data (by omega) (by rw [List.getElem?_map, List.getElem?_eq_getElem hn]; rfl)
  refine ⟨Option.isSome_iff_exists.mpr ⟨_, hi⟩, _, _, hi, hat, ⟨by decide, by decide +kernel⟩, ⟨by decide, by decide +kernel⟩, (show (0 : Int) < (10 ^ (60 : Int).toNat) ^ (14 : Int).toNat by decide +kernel), ?_⟩
  refine fin _ (Int.emod_nonneg _ ?_)
  decide +kernel

/-! _law_take -/
def f_law_take : FD := fun ss cs _ Q => ∃ (j : Nat) (n : Int) (B : Nat), ss = [.c j, .d (.int n)] ∧ PotAt cs j B ∧ B ≤ 2 ^ 40 ∧ (0 < n ∧ n < 2 ^ 200) ∧ ∀ r cs', (0 ≤ r ∧ r < n) → Chg j cs cs' → PotAt cs' j (B + 1) → Q (.int r) cs'

theorem sc_law_take : FnScope ["pot", "many", "found", "one", "other"] ["pot", "many"] (defScope s_law_take) := ⟨rfl, rfl, rfl, by decide +kernel, rfl, by decide +kernel, by decide +kernel⟩
theorem ok_law_take (T : Txt K mg) {a : Addr} {fd : FuncData} (F : FunD K "_law_take" "_law_take" (defArgs s_law_take) (defBody s_law_take) (defScope s_law_take) [] [] a fd) (hb : Binds K fd ["pot", "many"] []) (hm : mg "_law_take" = some (.ref a)) : Cal P w K mg base 1 "_law_take" ["pot", "many"] f_law_take := by
  refine cal_of F sc_law_take hb hm (fun ss cs Ed Q h => ?_) (fun cdv A outer s H E hr => (q_scons (q_ifS (q_tcmp op_gt sr_gt (q_ixV 0 (pv 0) q_int) q_int)
      (q_scons (q_set 2 sc_law_take.nd (q_bin op_mod sr_mod (q_ixV 0 (pv 0) q_int) (q_var 1)))
      (q_scons (q_store 0 (pv 0) q_int (q_bin op_fdivW sr_div (q_ixV 0 (pv 0) q_int) (q_var 1)))
      (q_sone (q_retV 2 (pv 2)))))
      q_snil)
      (q_scons (q_store 0 (pv 0) q_int (q_bin op_plus sr_plus (q_ixV 0 (pv 0) q_int) q_int))
      (q_scons (q_set 3 sc_law_take.nd (q_bin op_mod sr_mod (q_bin op_powW sr_powW (q_bin op_plus sr_plus (q_ixV 0 (pv 0) q_int) (q_bin op_times sr_times q_int (q_ixV 0 (pv 0) q_int))) q_int) q_int))
      (q_scons (q_set 4 sc_law_take.nd (q_bin op_mod sr_mod (q_bin op_powW sr_powW (q_bin op_plus sr_plus (q_bin op_plus sr_plus (q_var 3) (q_bin op_mod sr_mod (q_ixV 0 (pv 0) q_int) q_int)) (q_bin op_times sr_times q_int (q_ixV 0 (pv 0) q_int))) q_int) q_int))
      (q_sone (q_ret (q_bin op_mod sr_mod (q_bin op_fdivW sr_div (q_var 4) q_int) (q_var 1))))))))) ?_
  · obtain ⟨_, _, _, rfl, _⟩ := h; rfl
  intro ss cs Ed Qd h
  obtain ⟨j, n, B, rfl, ⟨ds, hd, hp⟩, hB, hn, h⟩ := h
  obtain ⟨a, b, c, rfl, h1, h2, h3, h4, h5⟩ := hp.ex
  have hdiv : CDivW a n := wide_div hn.1 (by have := hn.2; omega) (by decide) (by decide : 200 ≤ 9000)
  refine ⟨Option.isSome_iff_exists.mpr ⟨_, hd⟩, _, _, hd, rfl, ?_⟩
  refine ifD2 (fun ha => ?_) fun ha => ?_
  · -- by its digits
    refine ⟨Option.isSome_iff_exists.mpr ⟨_, hd⟩, _, _, hd, rfl, hn.1, ?_⟩
    refine ⟨Option.isSome_iff_exists.mpr ⟨_, hd⟩, _, _, hd, rfl, hdiv, _, 0, hd, rfl, ?_⟩
    refine h _ _ ⟨Int.emod_nonneg _ (by omega), Int.emod_lt_of_pos _ hn.1⟩ Chg.set ⟨_, List.getElem?_set_self (List.getElem?_eq_some_iff.mp hd).1, ⟨_, b, c, rfl, Int.ediv_nonneg h1 (by omega), h2, h3, h4, by omega⟩⟩
  · -- mixed
    have hd2 := List.getElem?_set_self (a := [.int a, .int b, .int (c + 1)]) (List.getElem?_eq_some_iff.mp hd).1
    refine ⟨Option.isSome_iff_exists.mpr ⟨_, hd⟩, _, _, hd, rfl, _, 2, hd, rfl, ?_⟩
    refine ⟨Option.isSome_iff_exists.mpr ⟨_, hd2⟩, _, _, hd2, rfl, Option.isSome_iff_exists.mpr ⟨_, hd2⟩, _, _, hd2, rfl, .inl ⟨by decide, by decide⟩, powW_of (by omega) (by omega) (by decide) (by decide), (show (0 : Int) < 2305843009213693921 by decide), ?_⟩
    have h6 : 0 ≤ (b + 104729 * (c + 1)) ^ (3 : Int).toNat % 2305843009213693921 := Int.emod_nonneg _ (by decide)
    have h7 : (b + 104729 * (c + 1)) ^ (3 : Int).toNat % 2305843009213693921 < 2305843009213693921 := Int.emod_lt_of_pos _ (by decide)
    have h8 : 0 ≤ b % 65537 := Int.emod_nonneg _ (by decide)
    have h9 : b % 65537 < 65537 := Int.emod_lt_of_pos _ (by decide)
    refine ⟨Option.isSome_iff_exists.mpr ⟨_, hd2⟩, _, _, hd2, rfl, (show (0 : Int) < 65537 by decide), Option.isSome_iff_exists.mpr ⟨_, hd2⟩, _, _, hd2, rfl, .inl ⟨by decide, by decide⟩, powW_of (by omega) (by omega) (by decide) (by decide), (show (0 : Int) < 2305843009213693907 by decide), ?_⟩
    refine ⟨⟨by decide, by decide +kernel⟩, hn.1, ?_⟩
    exact h _ _ ⟨Int.emod_nonneg _ (by omega), Int.emod_lt_of_pos _ hn.1⟩ Chg.set ⟨_, hd2, ⟨_, b, _, rfl, h1, h2, h3, by omega, by omega⟩⟩

/-! _law_whole -/
def f_law_whole : FD := fun ss cs _ Q => ∃ x lo hi, ss = [.d x, .d (.int lo), .d (.int hi)] ∧ Q (.bool (isWi x lo hi)) cs
theorem sc_law_whole : FnScope ["thing", "least", "most"] ["thing", "least", "most"] (defScope s_law_whole) := ⟨rfl, rfl, rfl, by decide +kernel, rfl, by decide +kernel, by decide +kernel⟩
theorem ok_law_whole (T : Txt K mg) {a : Addr} {fd : FuncData} (F : FunD K "_law_whole" "_law_whole" (defArgs s_law_whole) (defBody s_law_whole) (defScope s_law_whole) [] [] a fd) (hb : Binds K fd ["thing", "least", "most"] []) (hm : mg "_law_whole" = some (.ref a)) : Cal P w K mg base 1 "_law_whole" ["thing", "least", "most"] f_law_whole := by
  refine cal_of F sc_law_whole hb hm (fun ss cs Ed Q h => ?_) (fun cdv A outer s H E hr => (q_sone (q_ret (q_vand (q_isi "int" (q_var 0) T.f_isinstance T.f_int (by decide +kernel)) (q_vand (q_vnot (q_isi "bool" (q_var 0) T.f_isinstance T.f_bool (by decide +kernel))) (q_v1 (q_chain op_le sr_le op_le sr_le (q_var 1) (q_var 0) (q_var 2)))))))) ?_
  · obtain ⟨_, _, _, rfl, _⟩ := h; rfl
  intro ss cs Ed Qd h
  obtain ⟨x, lo, hi, rfl, h⟩ := h
  cases x with
  | int i =>
    have h' : Qd (.bool (decide (lo ≤ i) && decide (i ≤ hi))) cs := h
    refine ⟨true, rfl, false, rfl, ?_⟩
    show (if decide (lo ≤ i) = true then Qd (.bool (decide (i ≤ hi))) cs else Qd (.bool false) cs)
    by_cases c : lo ≤ i
    · rw [decide_eq_true c] at h' ⊢
      exact h'
    · rw [decide_eq_false c] at h' ⊢
      exact h'
  | bool b => exact ⟨true, rfl, true, rfl, h⟩
  | _ => exact ⟨false, rfl, h⟩

/-! is_within -/
def f_is_within : FD := fun ss cs _ Q => ∃ x lo hi, ss = [.d x, .d (.int lo), .d (.int hi)] ∧ Q (.bool (isWi x lo hi)) cs
theorem sc_is_within : FnScope ["thing", "low", "high"] ["thing", "low", "high"] (defScope s_is_within) := ⟨rfl, rfl, rfl, by decide +kernel, rfl, by decide +kernel, by decide +kernel⟩
theorem ok_is_within (T : Txt K mg) (G_is_whole : Cal P w K mg base 1 "is_whole" ["thing"] f_is_whole) {a : Addr} {fd : FuncData} (F : FunD K "is_within" "is_within" (defArgs s_is_within) (defBody s_is_within) (defScope s_is_within) [] [] a fd) (hb : Binds K fd ["thing", "low", "high"] []) (hm : mg "is_within" = some (.ref a)) : Cal P w K mg base 2 "is_within" ["thing", "low", "high"] f_is_within := by
  refine cal_of F sc_is_within hb hm (fun ss cs Ed Q h => ?_) (fun cdv A outer s H E hr => (q_sone (q_ret (q_vand (q_call G_is_whole (hr.mono (by decide)) (passes_call (takes_of rfl rfl rfl rfl) fun _ _ _ _ h => h) (q_consV 0 (pv 0) q_nil)) (q_v1 (q_chain op_le sr_le op_le sr_le (q_var 1) (q_var 0) (q_var 2))))))) ?_
  · obtain ⟨_, _, _, rfl, _⟩ := h; rfl
  intro ss cs Ed Qd h
  obtain ⟨x, lo, hi, rfl, h⟩ := h
  refine ⟨x, rfl, ?_⟩
  cases x with
  | int i =>
    have h' : Qd (.bool (decide (lo ≤ i) && decide (i ≤ hi))) cs := h
    show (if decide (lo ≤ i) = true then Qd (.bool (decide (i ≤ hi))) cs else Qd (.bool false) cs)
    by_cases c : lo ≤ i
    · rw [decide_eq_true c] at h' ⊢
      exact h'
    · rw [decide_eq_false c] at h' ⊢
      exact h'
  | _ => exact h

/-! _law_late_rule -/
def f_law_late_rule : FD := fun ss cs _ Q => ∃ (j B : Nat), ss = [.c j] ∧ PotAt cs j B ∧ B ≤ 2 ^ 39 ∧ ∀ (r : Lr) cs', r.Ok → Chg j cs cs' → PotAt cs' j (B + 20) → Q r.d cs'

theorem sc_law_late_rule : FnScope ["pot", "mark", "span"] ["pot"] (defScope s_law_late_rule) := ⟨rfl, rfl, rfl, by decide +kernel, rfl, by decide +kernel, by decide +kernel⟩
theorem ok_law_late_rule (T : Txt K mg) (G_law_take : Cal P w K mg base 1 "_law_take" ["pot", "many"] f_law_take) {a : Addr} {fd : FuncData} (F : FunD K "_law_late_rule" "_law_late_rule" (defArgs s_law_late_rule) (defBody s_law_late_rule) (defScope s_law_late_rule) [] [] a fd) (hb : Binds K fd ["pot"] []) (hm : mg "_law_late_rule" = some (.ref a)) : Cal P w K mg base 2 "_law_late_rule" ["pot"] f_law_late_rule := by
  refine cal_of F sc_law_late_rule hb hm (fun ss cs Ed Q h => ?_) (fun cdv A outer s H E hr => (q_scons (q_set 1 sc_law_late_rule.nd (q_ix (q_lst (q_cons (q_bin op_plus sr_plus q_int (q_call G_law_take (hr.mono (by decide)) (passes_call (takes_of rfl rfl rfl rfl) fun _ _ _ _ h => h) (q_consV 0 (pv 0) (q_cons q_int q_nil)))) (q_cons (q_bin op_plus sr_plus q_int (q_call G_law_take (hr.mono (by decide)) (passes_call (takes_of rfl rfl rfl rfl) fun _ _ _ _ h => h) (q_consV 0 (pv 0) (q_cons q_int q_nil)))) (q_cons q_int q_nil)))) (q_bin op_fdivW sr_div (q_call G_law_take (hr.mono (by decide)) (passes_call (takes_of rfl rfl rfl rfl) fun _ _ _ _ h => h) (q_consV 0 (pv 0) (q_cons q_int q_nil))) q_int)))
      (q_scons (q_set 2 sc_law_late_rule.nd (q_lst (q_cons (q_bin op_plus sr_plus q_int (q_call G_law_take (hr.mono (by decide)) (passes_call (takes_of rfl rfl rfl rfl) fun _ _ _ _ h => h) (q_consV 0 (pv 0) (q_cons q_int q_nil)))) (q_cons (q_bin op_plus sr_plus q_int (q_call G_law_take (hr.mono (by decide)) (passes_call (takes_of rfl rfl rfl rfl) fun _ _ _ _ h => h) (q_consV 0 (pv 0) (q_cons q_int q_nil)))) (q_cons (q_bin op_plus sr_plus q_int (q_call G_law_take (hr.mono (by decide)) (passes_call (takes_of rfl rfl rfl rfl) fun _ _ _ _ h => h) (q_consV 0 (pv 0) (q_cons q_int q_nil)))) q_nil)))))
      (q_sone (q_ret (q_tup (q_cons q_str (q_consV 1 (pv 1) (q_cons (q_ixV 2 (pv 2) (q_bin op_fdivW sr_div (q_call G_law_take (hr.mono (by decide)) (passes_call (takes_of rfl rfl rfl rfl) fun _ _ _ _ h => h) (q_consV 0 (pv 0) (q_cons q_int q_nil))) q_int)) q_nil))))))))) ?_
  · obtain ⟨_, _, rfl, _⟩ := h; rfl
  intro ss cs Ed Qd h
  obtain ⟨j, B, rfl, hp0, hB, h⟩ := h
  refine ⟨j, _, _, rfl, hp0, by omega, ⟨by decide, by decide⟩, fun r1 cs1 hr1 hc1 hp1 => ?_⟩
  refine ⟨j, _, _, rfl, hp1, by omega, ⟨by decide, by decide⟩, fun r2 cs2 hr2 hc2 hp2 => ?_⟩
  refine ⟨le_line (show 3 ≤ 100000 by decide), j, _, _, rfl, hp2, by omega, ⟨by decide, by decide⟩, fun r3 cs3 hr3 hc3 hp3 => ?_⟩
  obtain ⟨z1, a1, b1, c1⟩ := pickI (lo := 1) (hi := 99) (ds := [.int (1 + r1), .int (1 + r2), .int 99]) (i := r3 / 4) (.cons (by omega) (by omega) (.cons (by omega) (by omega) (.cons (by omega) (by omega) .nil))) (by omega) (by show r3 / 4 < 3; omega)
  refine ⟨⟨by decide, by decide⟩, _, a1, ?_⟩
  refine ⟨j, _, _, rfl, hp3, by omega, ⟨by decide, by decide⟩, fun r4 cs4 hr4 hc4 hp4 => ?_⟩
  refine ⟨j, _, _, rfl, hp4, by omega, ⟨by decide, by decide⟩, fun r5 cs5 hr5 hc5 hp5 => ?_⟩
  refine ⟨j, _, _, rfl, hp5, by omega, ⟨by decide, by decide⟩, fun r6 cs6 hr6 hc6 hp6 => ?_⟩
  refine ⟨le_line (show 3 ≤ 100000 by decide), rfl, j, _, _, rfl, hp6, by omega, ⟨by decide, by decide⟩, fun r7 cs7 hr7 hc7 hp7 => ?_⟩
  obtain ⟨z2, a2, b2, c2⟩ := pickI (lo := 1) (hi := 99) (ds := [.int (1 + r4), .int (1 + r5), .int (1 + r6)]) (i := r7 / 4) (.cons (by omega) (by omega) (.cons (by omega) (by omega) (.cons (by omega) (by omega) .nil))) (by omega) (by show r7 / 4 < 3; omega)
  refine ⟨⟨by decide, by decide⟩, _, _, rfl, a2, le_line (show 3 ≤ 100000 by decide), ?_⟩
  exact h ⟨z1, z2⟩ cs7 ⟨⟨b1, c1⟩, ⟨b2, c2⟩⟩ ((((((hc1.trans hc2).trans hc3).trans hc4).trans hc5).trans hc6).trans hc7) (hp7.mono (by omega))

/-! _law_share_rule -/
def f_law_share_rule : FD := fun ss cs _ Q => ∃ (j B : Nat), ss = [.c j] ∧ PotAt cs j B ∧ B ≤ 2 ^ 39 ∧ ∀ (r : Rl) cs', r.Ok → Chg j cs cs' → PotAt cs' j (B + 20) → Q r.d cs'

theorem sc_law_share_rule : FnScope ["pot", "mark", "period", "some", "up"] ["pot"] (defScope s_law_share_rule) := ⟨rfl, rfl, rfl, by decide +kernel, rfl, by decide +kernel, by decide +kernel⟩
theorem ok_law_share_rule (T : Txt K mg) (G_law_take : Cal P w K mg base 1 "_law_take" ["pot", "many"] f_law_take) {a : Addr} {fd : FuncData} (F : FunD K "_law_share_rule" "_law_share_rule" (defArgs s_law_share_rule) (defBody s_law_share_rule) (defScope s_law_share_rule) [] [] a fd) (hb : Binds K fd ["pot"] []) (hm : mg "_law_share_rule" = some (.ref a)) : Cal P w K mg base 2 "_law_share_rule" ["pot"] f_law_share_rule := by
  refine cal_of F sc_law_share_rule hb hm (fun ss cs Ed Q h => ?_) (fun cdv A outer s H E hr => (q_scons (q_set 1 sc_law_share_rule.nd (q_ix (q_lst (q_cons (q_bin op_plus sr_plus q_int (q_call G_law_take (hr.mono (by decide)) (passes_call (takes_of rfl rfl rfl rfl) fun _ _ _ _ h => h) (q_consV 0 (pv 0) (q_cons q_int q_nil)))) (q_cons (q_bin op_plus sr_plus q_int (q_call G_law_take (hr.mono (by decide)) (passes_call (takes_of rfl rfl rfl rfl) fun _ _ _ _ h => h) (q_consV 0 (pv 0) (q_cons q_int q_nil)))) q_nil))) (q_bin op_fdivW sr_div (q_call G_law_take (hr.mono (by decide)) (passes_call (takes_of rfl rfl rfl rfl) fun _ _ _ _ h => h) (q_consV 0 (pv 0) (q_cons q_int q_nil))) q_int)))
      (q_scons (q_set 2 sc_law_share_rule.nd (q_ix (q_lst (q_cons (q_bin op_plus sr_plus q_int (q_call G_law_take (hr.mono (by decide)) (passes_call (takes_of rfl rfl rfl rfl) fun _ _ _ _ h => h) (q_consV 0 (pv 0) (q_cons q_int q_nil)))) (q_cons (q_bin op_plus sr_plus q_int (q_call G_law_take (hr.mono (by decide)) (passes_call (takes_of rfl rfl rfl rfl) fun _ _ _ _ h => h) (q_consV 0 (pv 0) (q_cons q_int q_nil)))) q_nil))) (q_bin op_fdivW sr_div (q_call G_law_take (hr.mono (by decide)) (passes_call (takes_of rfl rfl rfl rfl) fun _ _ _ _ h => h) (q_consV 0 (pv 0) (q_cons q_int q_nil))) q_int)))
      (q_scons (q_set 3 sc_law_share_rule.nd (q_lst (q_cons (q_call G_law_take (hr.mono (by decide)) (passes_call (takes_of rfl rfl rfl rfl) fun _ _ _ _ h => h) (q_consV 0 (pv 0) (q_cons q_int q_nil))) (q_cons (q_call G_law_take (hr.mono (by decide)) (passes_call (takes_of rfl rfl rfl rfl) fun _ _ _ _ h => h) (q_consV 0 (pv 0) (q_cons q_int q_nil))) (q_cons q_int (q_cons q_int q_nil))))))
      (q_scons (q_set 4 sc_law_share_rule.nd (q_ixV 3 (pv 3) (q_call G_law_take (hr.mono (by decide)) (passes_call (takes_of rfl rfl rfl rfl) fun _ _ _ _ h => h) (q_consV 0 (pv 0) (q_cons q_int q_nil)))))
      (q_sone (q_ret (q_tup (q_cons q_str (q_consV 1 (pv 1) (q_consV 2 (pv 2) (q_consV 4 (pv 4) (q_cons (q_ix (q_lst (q_cons (q_call G_law_take (hr.mono (by decide)) (passes_call (takes_of rfl rfl rfl rfl) fun _ _ _ _ h => h) (q_consV 0 (pv 0) (q_cons q_int q_nil))) (q_cons q_int (q_cons q_int q_nil)))) (q_call G_law_take (hr.mono (by decide)) (passes_call (takes_of rfl rfl rfl rfl) fun _ _ _ _ h => h) (q_consV 0 (pv 0) (q_cons q_int q_nil)))) q_nil))))))))))))) ?_
  · obtain ⟨_, _, rfl, _⟩ := h; rfl
  intro ss cs Ed Qd h
  obtain ⟨j, B, rfl, hp0, hB, h⟩ := h
  refine ⟨j, _, _, rfl, hp0, by omega, ⟨by decide, by decide⟩, fun r1 cs1 hr1 hc1 hp1 => ?_⟩
  refine ⟨j, _, _, rfl, hp1, by omega, ⟨by decide, by decide⟩, fun r2 cs2 hr2 hc2 hp2 => ?_⟩
  refine ⟨le_line (show 2 ≤ 100000 by decide), j, _, _, rfl, hp2, by omega, ⟨by decide, by decide⟩, fun r3 cs3 hr3 hc3 hp3 => ?_⟩
  obtain ⟨z1, a1, b1, c1⟩ := pickI (lo := 1) (hi := 99) (ds := [.int (1 + r1), .int (1 + r2)]) (i := r3 / 4) (.cons (by omega) (by omega) (.cons (by omega) (by omega) .nil)) (by omega) (by show r3 / 4 < 2; omega)
  refine ⟨⟨by decide, by decide⟩, _, a1, ?_⟩
  refine ⟨j, _, _, rfl, hp3, by omega, ⟨by decide, by decide⟩, fun r4 cs4 hr4 hc4 hp4 => ?_⟩
  refine ⟨j, _, _, rfl, hp4, by omega, ⟨by decide, by decide⟩, fun r5 cs5 hr5 hc5 hp5 => ?_⟩
  refine ⟨le_line (show 2 ≤ 100000 by decide), j, _, _, rfl, hp5, by omega, ⟨by decide, by decide⟩, fun r6 cs6 hr6 hc6 hp6 => ?_⟩
  obtain ⟨z2, a2, b2, c2⟩ := pickI (lo := 1) (hi := 99) (ds := [.int (1 + r4), .int (1 + r5)]) (i := r6 / 4) (.cons (by omega) (by omega) (.cons (by omega) (by omega) .nil)) (by omega) (by show r6 / 4 < 2; omega)
  refine ⟨⟨by decide, by decide⟩, _, a2, ?_⟩
  refine ⟨j, _, _, rfl, hp6, by omega, ⟨by decide, by decide⟩, fun r7 cs7 hr7 hc7 hp7 => ?_⟩
  refine ⟨j, _, _, rfl, hp7, by omega, ⟨by decide, by decide⟩, fun r8 cs8 hr8 hc8 hp8 => ?_⟩
  refine ⟨le_line (show 4 ≤ 100000 by decide), rfl, j, _, _, rfl, hp8, by omega, ⟨by decide, by decide⟩, fun r9 cs9 hr9 hc9 hp9 => ?_⟩
  obtain ⟨z3, a3, b3, c3⟩ := pickI (lo := 0) (hi := 999) (ds := [.int r7, .int r8, .int 0, .int 999]) (i := r9) (.cons (by omega) (by omega) (.cons (by omega) (by omega) (.cons (by omega) (by omega) (.cons (by omega) (by omega) .nil)))) (by omega) (by show r9 < 4; omega)
  refine ⟨_, _, rfl, a3, ?_⟩
  refine ⟨j, _, _, rfl, hp9, by omega, ⟨by decide, by decide⟩, fun r10 cs10 hr10 hc10 hp10 => ?_⟩
  refine ⟨le_line (show 3 ≤ 100000 by decide), j, _, _, rfl, hp10, by omega, ⟨by decide, by decide⟩, fun r11 cs11 hr11 hc11 hp11 => ?_⟩
  obtain ⟨z4, a4, b4, c4⟩ := pickI (lo := 0) (hi := 999) (ds := [.int r10, .int 0, .int 999]) (i := r11) (.cons (by omega) (by omega) (.cons (by omega) (by omega) (.cons (by omega) (by omega) .nil))) (by omega) (by show r11 < 3; omega)
  refine ⟨_, a4, le_line (show 5 ≤ 100000 by decide), ?_⟩
  exact h ⟨z1, z2, z3, z4⟩ cs11 ⟨⟨b1, c1⟩, ⟨b2, c2⟩, ⟨b3, c3⟩, ⟨b4, c4⟩⟩ ((((((((((hc1.trans hc2).trans hc3).trans hc4).trans hc5).trans hc6).trans hc7).trans hc8).trans hc9).trans hc10).trans hc11) (hp11.mono (by omega))

/-! _law_odd -/
def f_law_odd : FD := fun ss cs _ Q => ∃ (j B : Nat), ss = [.c j] ∧ PotAt cs j B ∧ B ≤ 2 ^ 39 ∧ ∀ (x : PyData) cs', El "share" x → Th "share" x → Chg j cs cs' → PotAt cs' j (B + 10) → Q x cs'

theorem sc_law_odd : FnScope ["pot", "some"] ["pot"] (defScope s_law_odd) := ⟨rfl, rfl, rfl, by decide +kernel, rfl, by decide +kernel, by decide +kernel⟩
theorem ok_law_odd (T : Txt K mg) (G_law_take : Cal P w K mg base 1 "_law_take" ["pot", "many"] f_law_take) {a : Addr} {fd : FuncData} (F : FunD K "_law_odd" "_law_odd" (defArgs s_law_odd) (defBody s_law_odd) (defScope s_law_odd) [] [] a fd) (hb : Binds K fd ["pot"] []) (hm : mg "_law_odd" = some (.ref a)) : Cal P w K mg base 2 "_law_odd" ["pot"] f_law_odd := by
  refine cal_of F sc_law_odd hb hm (fun ss cs Ed Q h => ?_) (fun cdv A outer s H E hr => (q_scons (q_set 1 sc_law_odd.nd (q_lst (q_cons (q_neg q_int) (q_cons q_int (q_cons q_int (q_cons q_int (q_cons q_int (q_cons q_int (q_cons q_int (q_cons q_int (q_cons q_int (q_cons q_int (q_cons q_int (q_cons q_int (q_cons q_int (q_cons (q_bin op_powW sr_powW q_int q_int) (q_cons (q_bin op_plus sr_plus (q_bin op_powW sr_powW q_int q_int) q_int) (q_cons (q_bin op_powW sr_powW q_int q_int) (q_cons (q_neg (q_bin op_powW sr_powW q_int q_int)) q_nil)))))))))))))))))))
      (q_scons (q_set 1 sc_law_odd.nd (q_bin op_plus sr_plus (q_var 1) (q_lst (q_cons q_bl (q_cons q_bl (q_cons q_non (q_cons q_str (q_cons q_str (q_cons q_str (q_cons q_str (q_cons q_str (q_cons (q_tup q_nil) (q_cons (q_lst q_nil) (q_cons q_emp (q_cons (q_tup (q_cons q_int q_nil)) (q_cons (q_lst (q_cons q_int q_nil)) (q_cons (q_tup (q_cons q_str (q_cons q_int (q_cons q_int q_nil)))) q_nil)))))))))))))))))
      (q_sone (q_ret (q_ixV 1 (pv 1) (q_call G_law_take (hr.mono (by decide)) (passes_call (takes_of rfl rfl rfl rfl) fun _ _ _ _ h => h) (q_consV 0 (pv 0) (q_cons q_int q_nil))))))))) ?_
  · obtain ⟨_, _, rfl, _⟩ := h; rfl
  intro ss cs Ed Qd h
  obtain ⟨j, B, rfl, hp0, hB, h⟩ := h
  have l0 := le_line (show 0 ≤ 100000 by decide)
  have l1 := le_line (show 1 ≤ 100000 by decide)
  have l3 := le_line (show 3 ≤ 100000 by decide)
  refine ⟨⟨by decide, by decide +kernel⟩, ⟨by decide, by decide +kernel⟩, ⟨by decide, by decide +kernel⟩, ⟨by decide, by decide +kernel⟩, le_line (show 17 ≤ 100000 by decide), l0, l0, l1, l1, l3, le_line (show 14 ≤ 100000 by decide), le_line (show 31 ≤ 100000 by decide), rfl, j, _, _, rfl, hp0, by omega, ⟨by decide, by decide⟩, fun r1 cs1 hr1 hc1 hp1 => ?_⟩
  obtain ⟨d, hd, hm⟩ := at_any2 (ds := oddL) (i := r1) hr1.1 (by show r1 < 31; exact hr1.2)
  exact ⟨_, d, rfl, hd, h d cs1 (odd_el d hm) (odd_th d hm) hc1 (hp1.mono (by omega))⟩

/-! check_number -/
def f_check_number : FD := fun ss cs Ed Q => ∃ (z : PyData) (lo hi : Int), ss = [.d z, .d (.int lo), .d (.int hi)] ∧ (lo.natAbs < 10 ^ 12 ∧ hi.natAbs < 10 ^ 12) ∧ NumP z lo hi Ed cs fun _ => Q .none cs
theorem sc_check_number : FnScope ["thing", "low", "high"] ["thing", "low", "high"] (defScope s_check_number) := ⟨rfl, rfl, rfl, by decide +kernel, rfl, by decide +kernel, by decide +kernel⟩
theorem ok_check_number (T : Txt K mg) (G_is_within : Cal P w K mg base 2 "is_within" ["thing", "low", "high"] f_is_within) {a : Addr} {fd : FuncData} (F : FunD K "check_number" "check_number" (defArgs s_check_number) (defBody s_check_number) (defScope s_check_number) [] [] a fd) (hb : Binds K fd ["thing", "low", "high"] []) (hm : mg "check_number" = some (.ref a)) : Cal P w K mg base 3 "check_number" ["thing", "low", "high"] f_check_number := by
  refine cal_of F sc_check_number hb hm (fun ss cs Ed Q h => ?_) (fun cdv A outer s H E hr => (q_sone (q_ifS (q_not (q_tv (q_call G_is_within (hr.mono (by decide)) (passes_call (takes_of rfl rfl rfl rfl) fun _ _ _ _ h => h) (q_consV 0 (pv 0) (q_consV 1 (pv 1) (q_consV 2 (pv 2) q_nil))))))
      (q_sone (q_raise (T.er.r "NoNumber" (by decide +kernel)) rfl (takes_of rfl rfl rfl rfl) (q_fs (qf_str (qf_int (q_var 1) (qf_str (qf_int (q_var 2) qf_nil)))))))
      q_snil))) ?_
  · obtain ⟨_, _, _, rfl, _⟩ := h; rfl
  intro ss cs Ed Qd h
  obtain ⟨z, lo, hi, rfl, ⟨b1, b2⟩, h⟩ := h
  refine ⟨z, lo, hi, rfl, ?_⟩
  cases e : isWi z lo hi with
  | true =>
    obtain ⟨i, rfl, hi⟩ := iw_inv e
    exact ifF rfl (h.ok i rfl hi)
  | false => exact ifT rfl ⟨b1, b2, fun _ => h.no e⟩

/-! is_share -/
def f_is_share : FD := fun ss cs _ Q => ∃ x, ss = [.d x] ∧ Q (.bool (isShareD x)) cs
theorem sc_is_share : FnScope ["thing", "word", "mark", "period", "up", "turn"] ["thing"] (defScope s_is_share) := ⟨rfl, rfl, rfl, by decide +kernel, rfl, by decide +kernel, by decide +kernel⟩
theorem ok_is_share (T : Txt K mg) (G_is_within : Cal P w K mg base 2 "is_within" ["thing", "low", "high"] f_is_within) {a : Addr} {fd : FuncData} (F : FunD K "is_share" "is_share" (defArgs s_is_share) (defBody s_is_share) (defScope s_is_share) [] [] a fd) (hb : Binds K fd ["thing"] []) (hm : mg "is_share" = some (.ref a)) : Cal P w K mg base 3 "is_share" ["thing"] f_is_share := by
  refine cal_of F sc_is_share hb hm (fun ss cs Ed Q h => ?_) (fun cdv A outer s H E hr => (q_scons (q_ifS (q_w (q_or (q_not (q_tv (q_isi "tuple" (q_var 0) T.f_isinstance T.f_tuple (by decide +kernel)))) (q_or1 (q_tcmp (op_neD hr.units) sr_ne (q_lenV 0 (pv 0) T.f_len) q_int))))
      (q_sone (q_ret q_bl))
      q_snil)
      (q_scons (q_unp [1, 2, 3, 4, 5] rfl (pgs_cons (pg_name (i := 1) sc_is_share.nd rfl (by first | exact Or.inl rfl | exact Or.inr rfl)) (pgs_cons (pg_name (i := 2) sc_is_share.nd rfl (by first | exact Or.inl rfl | exact Or.inr rfl)) (pgs_cons (pg_name (i := 3) sc_is_share.nd rfl (by first | exact Or.inl rfl | exact Or.inr rfl)) (pgs_cons (pg_name (i := 4) sc_is_share.nd rfl (by first | exact Or.inl rfl | exact Or.inr rfl)) (pgs_cons (pg_name (i := 5) sc_is_share.nd rfl (by first | exact Or.inl rfl | exact Or.inr rfl)) pgs_nil))))) (q_var 0))
      (q_scons (q_ifS (q_w (q_or (q_tcmp (op_neA hr.units) sr_neA (q_var 1) q_str) (q_or (q_not (q_tv (q_call G_is_within (hr.mono (by decide)) (passes_call (takes_of rfl rfl rfl rfl) fun _ _ _ _ h => h) (q_consV 2 (pv 2) (q_cons q_int (q_cons (q_globI T.i_MOST_MARK) q_nil)))))) (q_or1 (q_not (q_tv (q_call G_is_within (hr.mono (by decide)) (passes_call (takes_of rfl rfl rfl rfl) fun _ _ _ _ h => h) (q_consV 3 (pv 3) (q_cons q_int (q_cons (q_globI T.i_MOST_PERIOD) q_nil))))))))))
      (q_sone (q_ret q_bl))
      q_snil)
      (q_sone (q_ret (q_vand (q_call G_is_within (hr.mono (by decide)) (passes_call (takes_of rfl rfl rfl rfl) fun _ _ _ _ h => h) (q_consV 4 (pv 4) (q_cons q_int (q_cons (q_globI T.i_MOST_FACTOR) q_nil)))) (q_v1 (q_call G_is_within (hr.mono (by decide)) (passes_call (takes_of rfl rfl rfl rfl) fun _ _ _ _ h => h) (q_consV 5 (pv 5) (q_cons q_int (q_cons (q_globI T.i_MOST_FACTOR) q_nil)))))))))))) ?_
  · obtain ⟨_, rfl, _⟩ := h; rfl
  intro ss cs Ed Qd h
  obtain ⟨x, rfl, h⟩ := h
  cases x with
  | none => exact ⟨false, rfl, h⟩
  | bool _ => exact ⟨false, rfl, h⟩
  | int _ => exact ⟨false, rfl, h⟩
  | str _ => exact ⟨false, rfl, h⟩
  | list _ => exact ⟨false, rfl, h⟩
  | dict _ => exact ⟨false, rfl, h⟩
  | tuple ds =>
    by_cases hl : ds.length = 5
    · obtain ⟨w, m, p, u, t, rfl⟩ := len5 hl
      have h' : Qd (.bool (PyData.eqv w (.str "share") && (isWi m 1 99 && (isWi p 1 99 && (isWi u 0 999 && isWi t 0 999))))) cs := h
      refine ⟨true, rfl, _, rfl, rfl, rfl, ifNT (lenEq rfl) ⟨_, rfl, ?_⟩⟩
      cases c1 : PyData.eqv w (.str "share") with
      | false =>
        rw [c1, Bool.false_and] at h'
        exact ifNF (by first | rfl | assumption) h'
      | true =>
        rw [c1, Bool.true_and] at h'
        refine ifNT (by first | rfl | assumption) ⟨_, _, _, rfl, ?_⟩
        cases c2 : isWi m 1 99 with
        | false =>
          rw [c2, Bool.false_and] at h'
          exact ifNF (by first | rfl | assumption) h'
        | true =>
          rw [c2, Bool.true_and] at h'
          refine ifNT (by first | rfl | assumption) ⟨_, _, _, rfl, ?_⟩
          cases c3 : isWi p 1 99 with
          | false =>
            rw [c3, Bool.false_and] at h'
            exact ifNF (by first | rfl | assumption) h'
          | true =>
            rw [c3, Bool.true_and] at h'
            refine ifNT (by first | rfl | assumption) ⟨_, _, _, rfl, if2 (fun c => ?_) fun c => ?_⟩
            · rw [c, Bool.true_and] at h'
              exact ⟨_, _, _, rfl, h'⟩
            · rw [c, Bool.false_and] at h'
              exact h'
    · rw [not5 hl] at h
      exact ⟨true, rfl, _, rfl, rfl, rfl, ifNF (lenNe (by omega)) h⟩

/-! fits_share -/
def f_fits_share : FD := fun ss cs _ Q => ∃ (r : Rl) (x : PyData), ss = [.d r.d, .d x] ∧ r.Ok ∧ Q (.bool (fitsS r x)) cs
theorem sc_fits_share : FnScope ["rule", "thing", "phase", "share", "old", "total"] ["rule", "thing"] (defScope s_fits_share) := ⟨rfl, rfl, rfl, by decide +kernel, rfl, by decide +kernel, by decide +kernel⟩
theorem ok_fits_share (T : Txt K mg) (G_is_within : Cal P w K mg base 2 "is_within" ["thing", "low", "high"] f_is_within) {a : Addr} {fd : FuncData} (F : FunD K "fits_share" "fits_share" (defArgs s_fits_share) (defBody s_fits_share) (defScope s_fits_share) [] [] a fd) (hb : Binds K fd ["rule", "thing"] []) (hm : mg "fits_share" = some (.ref a)) : Cal P w K mg base 3 "fits_share" ["rule", "thing"] f_fits_share := by
  refine cal_of F sc_fits_share hb hm (fun ss cs Ed Q h => ?_) (fun cdv A outer s H E hr => (q_scons (q_ifS (q_w (q_or (q_not (q_tv (q_isi "tuple" (q_var 1) T.f_isinstance T.f_tuple (by decide +kernel)))) (q_or1 (q_tcmp (op_neD hr.units) sr_ne (q_lenV 1 (pv 1) T.f_len) q_int))))
      (q_sone (q_ret q_bl))
      q_snil)
      (q_scons (q_unp [2, 3, 4, 5] rfl (pgs_cons (pg_name (i := 2) sc_fits_share.nd rfl (by first | exact Or.inl rfl | exact Or.inr rfl)) (pgs_cons (pg_name (i := 3) sc_fits_share.nd rfl (by first | exact Or.inl rfl | exact Or.inr rfl)) (pgs_cons (pg_name (i := 4) sc_fits_share.nd rfl (by first | exact Or.inl rfl | exact Or.inr rfl)) (pgs_cons (pg_name (i := 5) sc_fits_share.nd rfl (by first | exact Or.inl rfl | exact Or.inr rfl)) pgs_nil)))) (q_var 1))
      (q_scons (q_ifS (q_w (q_or (q_not (q_tv (q_call G_is_within (hr.mono (by decide)) (passes_call (takes_of rfl rfl rfl rfl) fun _ _ _ _ h => h) (q_consV 2 (pv 2) (q_cons q_int (q_cons (q_bin op_sub sr_sub (q_ixV 0 (pv 0) q_int) q_int) q_nil)))))) (q_or1 (q_not (q_tv (q_call G_is_within (hr.mono (by decide)) (passes_call (takes_of rfl rfl rfl rfl) fun _ _ _ _ h => h) (q_consV 3 (pv 3) (q_cons q_int (q_cons (q_globI T.i_WHOLE_SHARE) q_nil)))))))))
      (q_sone (q_ret q_bl))
      q_snil)
      (q_sone (q_ret (q_vand (q_call G_is_within (hr.mono (by decide)) (passes_call (takes_of rfl rfl rfl rfl) fun _ _ _ _ h => h) (q_consV 4 (pv 4) (q_cons q_int (q_cons (q_globI T.i_MOST_OLD) q_nil)))) (q_v1 (q_call G_is_within (hr.mono (by decide)) (passes_call (takes_of rfl rfl rfl rfl) fun _ _ _ _ h => h) (q_consV 5 (pv 5) (q_cons q_int (q_cons (q_bin op_sub sr_sub (q_globI T.i_WHOLE_SHARE) q_int) q_nil)))))))))))) ?_
  · obtain ⟨_, _, rfl, _⟩ := h; rfl
  intro ss cs Ed Qd h
  obtain ⟨r, x, rfl, hr, h⟩ := h
  cases x with
  | none => exact ⟨false, rfl, h⟩
  | bool _ => exact ⟨false, rfl, h⟩
  | int _ => exact ⟨false, rfl, h⟩
  | str _ => exact ⟨false, rfl, h⟩
  | list _ => exact ⟨false, rfl, h⟩
  | dict _ => exact ⟨false, rfl, h⟩
  | tuple ds =>
    by_cases hl : ds.length = 4
    · obtain ⟨a, b, c, d, rfl⟩ := len4 hl
      have h' : Qd (.bool (isWi a 0 (r.p - 1) && (isWi b 0 1000 && (isWi c 0 99 && isWi d 0 999)))) cs := h
      refine ⟨true, rfl, _, rfl, rfl, rfl, ifNT (lenEq rfl) ⟨_, rfl, ?_⟩⟩
      refine ⟨rfl, _, _, rfl, rfl, _, _, _, rfl, ?_⟩
      cases c1 : isWi a 0 (r.p - 1) with
      | false =>
        rw [c1, Bool.false_and] at h'
        exact ifNF (by first | rfl | assumption) h'
      | true =>
        rw [c1, Bool.true_and] at h'
        refine ifNT (by first | rfl | assumption) ⟨_, _, _, rfl, ?_⟩
        cases c2 : isWi b 0 1000 with
        | false =>
          rw [c2, Bool.false_and] at h'
          exact ifNF (by first | rfl | assumption) h'
        | true =>
          rw [c2, Bool.true_and] at h'
          refine ifNT (by first | rfl | assumption) ⟨_, _, _, rfl, if2 (fun c => ?_) fun c => ?_⟩
          · rw [c, Bool.true_and] at h'
            exact ⟨_, _, _, rfl, h'⟩
          · rw [c, Bool.false_and] at h'
            exact h'
    · rw [notS hl] at h
      exact ⟨true, rfl, _, rfl, rfl, rfl, ifNF (lenNe (by omega)) h⟩

/-! _law_spoilt -/
def f_law_spoilt : FD := fun ss cs _ Q => ∃ (j B : Nat) (ds : List PyData), ss = [.c j, .d (.tuple ds)] ∧ (1 ≤ ds.length ∧ ds.length ≤ 5) ∧ (∀ y ∈ ds, El "share" y) ∧ PotAt cs j B ∧ B ≤ 2 ^ 38 ∧ ∀ (x : PyData) cs', Th "share" x → Chg j cs cs' → PotAt cs' j (B + 30) → Q x cs'

theorem sc_law_spoilt : FnScope ["pot", "thing", "way", "at", "odd", "some"] ["pot", "thing"] (defScope s_law_spoilt) := ⟨rfl, rfl, rfl, by decide +kernel, rfl, by decide +kernel, by decide +kernel⟩
theorem ok_law_spoilt (T : Txt K mg) (G_law_take : Cal P w K mg base 1 "_law_take" ["pot", "many"] f_law_take) (G_law_odd : Cal P w K mg base 2 "_law_odd" ["pot"] f_law_odd) {a : Addr} {fd : FuncData} (F : FunD K "_law_spoilt" "_law_spoilt" (defArgs s_law_spoilt) (defBody s_law_spoilt) (defScope s_law_spoilt) [] [] a fd) (hb : Binds K fd ["pot", "thing"] []) (hm : mg "_law_spoilt" = some (.ref a)) : Cal P w K mg base 3 "_law_spoilt" ["pot", "thing"] f_law_spoilt := by
  refine cal_of F sc_law_spoilt hb hm (fun ss cs Ed Q h => ?_) (fun cdv A outer s H E hr => (q_scons (q_set 2 sc_law_spoilt.nd (q_call G_law_take (hr.mono (by decide)) (passes_call (takes_of rfl rfl rfl rfl) fun _ _ _ _ h => h) (q_consV 0 (pv 0) (q_cons q_int q_nil))))
      (q_scons (q_set 3 sc_law_spoilt.nd (q_call G_law_take (hr.mono (by decide)) (passes_call (takes_of rfl rfl rfl rfl) fun _ _ _ _ h => h) (q_consV 0 (pv 0) (q_cons (q_lenV 1 (pv 1) T.f_len) q_nil))))
      (q_scons (q_set 4 sc_law_spoilt.nd (q_call G_law_odd (hr.mono (by decide)) (passes_call (takes_of rfl rfl rfl rfl) fun _ _ _ _ h => h) (q_consV 0 (pv 0) q_nil)))
      (q_scons (q_ifS (q_tcmp op_lt sr_lt (q_var 2) q_int)
      (q_sone (q_ret (q_bin op_plus sr_plus (q_bin op_plus sr_plus (q_slV 1 (pv 1) q_no (q_part (q_var 3))) (q_tup (q_consV 4 (pv 4) q_nil))) (q_slV 1 (pv 1) (q_part (q_bin op_plus sr_plus (q_var 3) q_int)) q_no))))
      q_snil)
      (q_scons (q_set 5 sc_law_spoilt.nd (q_lst (q_cons (q_bin op_plus sr_plus (q_slV 1 (pv 1) q_no (q_part (q_var 3))) (q_slV 1 (pv 1) (q_part (q_bin op_plus sr_plus (q_var 3) q_int)) q_no)) (q_cons (q_bin op_plus sr_plus (q_slV 1 (pv 1) q_no (q_part (q_bin op_plus sr_plus (q_var 3) q_int))) (q_slV 1 (pv 1) (q_part (q_var 3)) q_no)) (q_cons (q_bin op_plus sr_plus (q_var 1) (q_tup (q_consV 4 (pv 4) q_nil))) (q_cons (q_revT (q_var 1)) (q_cons (q_ct call_list_of sc_list T.f_list boot_list' (q_consV 1 (pv 1) q_nil)) q_nil)))))))
      (q_sone (q_ret (q_ixV 5 (pv 5) (q_bin op_sub sr_sub (q_var 2) q_int)))))))))) ?_
  · obtain ⟨_, _, _, rfl, _⟩ := h; rfl
  intro ss cs Ed Qd h
  obtain ⟨j, B, ds, rfl, hn, hel, hp0, hB, h⟩ := h
  have l1 := le_line (show 1 ≤ 100000 by decide)
  have cl := cut_len ds
  have two : ∀ a b, (Kp.cutD ds none a).length + (Kp.cutD ds b none).length ≤ 10 := fun a b => by
    have h1 := cl none a
    have h2 := cl b none
    omega
  have fit : ∀ a b, (Kp.cutD ds none a).length + (Kp.cutD ds b none).length ≤ sizeLine := fun a b => le_line (Nat.le_trans (two a b) (by decide))
  refine ⟨j, _, _, rfl, hp0, by omega, ⟨by decide, by decide⟩, fun r1 cs1 hr1 hc1 hp1 => ?_⟩
  refine ⟨_, rfl, j, _, _, rfl, hp1, by omega, ⟨by omega, by omega⟩, fun r2 cs2 hr2 hc2 hp2 => ?_⟩
  refine ⟨j, _, rfl, hp2, by omega, fun odd cs3 ho hto hc3 hp3 => ?_⟩
  have hc := (hc1.trans hc2).trans hc3
  have hp := hp3.mono (show B + 1 + 1 + 10 ≤ B + 30 by omega)
  have cel : ∀ lo hi, ∀ y ∈ Kp.cutD ds lo hi, El "share" y := fun lo hi y hy => hel y (cut_mem hy)
  refine ifD2 (fun q => ?_) fun q => ?_
  · refine ⟨rfl, _, rfl, l1, le_line ?_, rfl, _, rfl, le_line ?_, h _ _ (Th.of fun y hy => ?_) hc hp⟩
    · have h1 := cl none (some r2)
      simp only [List.length_cons, List.length_nil]
      omega
    · have h1 := two (some r2) (some (r2 + 1))
      rw [List.length_append]
      simp only [List.length_cons, List.length_nil]
      omega
    · rcases mem3 hy with z | z | z
      · exact cel _ _ y z
      · rw [z]; exact ho
      · exact cel _ _ y z
  · refine ⟨rfl, _, rfl, rfl, _, rfl, fit _ _, rfl, _, rfl, rfl, _, rfl, fit _ _, l1, le_line (by simp only [List.length_cons, List.length_nil]; omega), le_line (show 5 ≤ 100000 by decide), ?_⟩
    obtain ⟨x, ax, mx⟩ := at_any2 (ds := [.tuple (Kp.cutD ds none (some r2) ++ Kp.cutD ds (some (r2 + 1)) none), .tuple (Kp.cutD ds none (some (r2 + 1)) ++ Kp.cutD ds (some r2) none), .tuple (ds ++ [odd]), .tuple ds.reverse, .list ds]) (i := r1 - 4) (by omega) (by show r1 - 4 < 5; omega)
    refine ⟨rfl, _, x, rfl, ax, h x _ ?_ hc hp⟩
    rcases List.mem_cons.mp mx with rfl | m
    · exact Th.of fun y hy => (List.mem_append.mp hy).elim (cel _ _ y) (cel _ _ y)
    rcases List.mem_cons.mp m with rfl | m
    · exact Th.of fun y hy => (List.mem_append.mp hy).elim (cel _ _ y) (cel _ _ y)
    rcases List.mem_cons.mp m with rfl | m
    · refine Th.of fun y hy => (List.mem_append.mp hy).elim (hel y) fun z => ?_
      rw [List.mem_singleton.mp z]
      exact ho
    rcases List.mem_cons.mp m with rfl | m
    · exact Th.of fun y hy => hel y (List.mem_reverse.mp hy)
    rw [List.mem_singleton.mp m]
    exact Th.no fun ds e => by cases e

/-! check_wait -/
def f_check_wait : FD := fun ss cs Ed Q => ∃ z : PyData, ss = [.d z] ∧ NumP z 0 1000000 Ed cs fun _ => Q .none cs
theorem sc_check_wait : FnScope ["wait"] ["wait"] (defScope s_check_wait) := ⟨rfl, rfl, rfl, by decide +kernel, rfl, by decide +kernel, by decide +kernel⟩
theorem ok_check_wait (T : Txt K mg) (G_check_number : Cal P w K mg base 3 "check_number" ["thing", "low", "high"] f_check_number) {a : Addr} {fd : FuncData} (F : FunD K "check_wait" "check_wait" (defArgs s_check_wait) (defBody s_check_wait) (defScope s_check_wait) [] [] a fd) (hb : Binds K fd ["wait"] []) (hm : mg "check_wait" = some (.ref a)) : Cal P w K mg base 4 "check_wait" ["wait"] f_check_wait := by
  refine cal_of F sc_check_wait hb hm (fun ss cs Ed Q h => ?_) (fun cdv A outer s H E hr => (q_sone (q_expr (q_call G_check_number (hr.mono (by decide)) (passes_call (takes_of rfl rfl rfl rfl) fun _ _ _ _ h => h) (q_consV 0 (pv 0) (q_cons q_int (q_cons (q_globI T.i_MOST_WAIT) q_nil))))))) ?_
  · obtain ⟨_, rfl, _⟩ := h; rfl
  intro ss cs Ed Qd h
  obtain ⟨z, rfl, h⟩ := h
  exact ⟨z, 0, 1000000, rfl, ⟨by decide, by decide⟩, h⟩

/-! _check_share -/
def f_check_share : FD := fun ss cs Ed Q => ∃ x, ss = [.d x] ∧ (isShareD x = false → Ed "NoRule" cs) ∧ (isShareD x = true → Q .none cs)
theorem sc_check_share : FnScope ["rule"] ["rule"] (defScope s_check_share) := ⟨rfl, rfl, rfl, by decide +kernel, rfl, by decide +kernel, by decide +kernel⟩
theorem ok_check_share (T : Txt K mg) (G_is_share : Cal P w K mg base 3 "is_share" ["thing"] f_is_share) {a : Addr} {fd : FuncData} (F : FunD K "_check_share" "_check_share" (defArgs s_check_share) (defBody s_check_share) (defScope s_check_share) [] [] a fd) (hb : Binds K fd ["rule"] []) (hm : mg "_check_share" = some (.ref a)) : Cal P w K mg base 4 "_check_share" ["rule"] f_check_share := by
  refine cal_of F sc_check_share hb hm (fun ss cs Ed Q h => ?_) (fun cdv A outer s H E hr => (q_sone (q_ifS (q_not (q_tv (q_call G_is_share (hr.mono (by decide)) (passes_call (takes_of rfl rfl rfl rfl) fun _ _ _ _ h => h) (q_consV 0 (pv 0) q_nil))))
      (q_sone (q_raise (T.er.r "NoRule" (by decide +kernel)) rfl (takes_of rfl rfl rfl rfl) q_str))
      q_snil))) ?_
  · obtain ⟨_, rfl, _⟩ := h; rfl
  intro ss cs Ed Qd h
  obtain ⟨x, rfl, h1, h2⟩ := h
  refine ⟨_, rfl, ?_⟩
  cases e : isShareD x with
  | true => exact ifF rfl (h2 e)
  | false => exact ifT rfl (h1 e)

/-! is_share_memory -/
def f_is_share_memory : FD := fun ss cs Ed Q => ∃ x y, ss = [.d x, .d y] ∧ (isShareD x = false → Ed "NoRule" cs) ∧ (∀ r : Rl, x = r.d → r.Ok → Q (.bool (fitsS r y)) cs)
theorem sc_is_share_memory : FnScope ["rule", "thing"] ["rule", "thing"] (defScope s_is_share_memory) := ⟨rfl, rfl, rfl, by decide +kernel, rfl, by decide +kernel, by decide +kernel⟩
theorem ok_is_share_memory (T : Txt K mg) (G_check_share : Cal P w K mg base 4 "_check_share" ["rule"] f_check_share) (G_fits_share : Cal P w K mg base 3 "fits_share" ["rule", "thing"] f_fits_share) {a : Addr} {fd : FuncData} (F : FunD K "is_share_memory" "is_share_memory" (defArgs s_is_share_memory) (defBody s_is_share_memory) (defScope s_is_share_memory) [] [] a fd) (hb : Binds K fd ["rule", "thing"] []) (hm : mg "is_share_memory" = some (.ref a)) : Cal P w K mg base 5 "is_share_memory" ["rule", "thing"] f_is_share_memory := by
  refine cal_of F sc_is_share_memory hb hm (fun ss cs Ed Q h => ?_) (fun cdv A outer s H E hr => (q_scons (q_expr (q_call G_check_share (hr.mono (by decide)) (passes_call (takes_of rfl rfl rfl rfl) fun _ _ _ _ h => h) (q_consV 0 (pv 0) q_nil)))
      (q_sone (q_ret (q_call G_fits_share (hr.mono (by decide)) (passes_call (takes_of rfl rfl rfl rfl) fun _ _ _ _ h => h) (q_consV 0 (pv 0) (q_consV 1 (pv 1) q_nil))))))) ?_
  · obtain ⟨_, _, rfl, _⟩ := h; rfl
  intro ss cs Ed Qd h
  obtain ⟨x, y, rfl, h1, h2⟩ := h
  refine ⟨_, rfl, h1, fun e => ?_⟩
  obtain ⟨r, rfl, hr⟩ := isShare_inv e
  exact ⟨r, y, rfl, hr, h2 r rfl hr⟩

/-! share_first -/
def f_share_first : FD := fun ss cs Ed Q => ∃ x, ss = [.d x] ∧ (isShareD x = false → Ed "NoRule" cs) ∧ (isShareD x = true → Q (.tuple [.int 0, .int 0, .int 0, .int 0]) cs)
theorem sc_share_first : FnScope ["rule"] ["rule"] (defScope s_share_first) := ⟨rfl, rfl, rfl, by decide +kernel, rfl, by decide +kernel, by decide +kernel⟩
theorem ok_share_first (T : Txt K mg) (G_check_share : Cal P w K mg base 4 "_check_share" ["rule"] f_check_share) {a : Addr} {fd : FuncData} (F : FunD K "share_first" "share_first" (defArgs s_share_first) (defBody s_share_first) (defScope s_share_first) [] [] a fd) (hb : Binds K fd ["rule"] []) (hm : mg "share_first" = some (.ref a)) : Cal P w K mg base 5 "share_first" ["rule"] f_share_first := by
  refine cal_of F sc_share_first hb hm (fun ss cs Ed Q h => ?_) (fun cdv A outer s H E hr => (q_scons (q_expr (q_call G_check_share (hr.mono (by decide)) (passes_call (takes_of rfl rfl rfl rfl) fun _ _ _ _ h => h) (q_consV 0 (pv 0) q_nil)))
      (q_sone (q_ret (q_tup (q_cons q_int (q_cons q_int (q_cons q_int (q_cons q_int q_nil))))))))) ?_
  · obtain ⟨_, rfl, _⟩ := h; rfl
  intro ss cs Ed Qd h
  obtain ⟨x, rfl, h1, h2⟩ := h
  exact ⟨_, rfl, h1, fun e => ⟨le_line (show 4 ≤ 100000 by decide), h2 e⟩⟩

/-! _check_memory -/
def f_check_memory : FD := fun ss cs Ed Q => ∃ x y : PyData, ss = [.d x, .d y] ∧ ShareP x Ed cs fun r => MemP r y Ed cs fun _ => Q .none cs
theorem sc_check_memory : FnScope ["rule", "memory"] ["rule", "memory"] (defScope s_check_memory) := ⟨rfl, rfl, rfl, by decide +kernel, rfl, by decide +kernel, by decide +kernel⟩
theorem ok_check_memory (T : Txt K mg) (G_is_share_memory : Cal P w K mg base 5 "is_share_memory" ["rule", "thing"] f_is_share_memory) {a : Addr} {fd : FuncData} (F : FunD K "_check_memory" "_check_memory" (defArgs s_check_memory) (defBody s_check_memory) (defScope s_check_memory) [] [] a fd) (hb : Binds K fd ["rule", "memory"] []) (hm : mg "_check_memory" = some (.ref a)) : Cal P w K mg base 6 "_check_memory" ["rule", "memory"] f_check_memory := by
  refine cal_of F sc_check_memory hb hm (fun ss cs Ed Q h => ?_) (fun cdv A outer s H E hr => (q_sone (q_ifS (q_not (q_tv (q_call G_is_share_memory (hr.mono (by decide)) (passes_call (takes_of rfl rfl rfl rfl) fun _ _ _ _ h => h) (q_consV 0 (pv 0) (q_consV 1 (pv 1) q_nil)))))
      (q_sone (q_raise (T.er.r "NoMemory" (by decide +kernel)) rfl (takes_of rfl rfl rfl rfl) q_str))
      q_snil))) ?_
  · obtain ⟨_, _, rfl, _⟩ := h; rfl
  intro ss cs Ed Qd h
  obtain ⟨x, y, rfl, h⟩ := h
  refine ⟨x, y, rfl, h.no, fun r ex hr => ?_⟩
  have h := h.ok r ex hr
  cases e : fitsS r y with
  | true =>
    obtain ⟨m, em, hm⟩ := fitsS_inv e
    exact ifF rfl (h.ok m em hm)
  | false => exact ifT rfl (h.no e)

/-! share_renewed -/
def f_share_renewed : FD := fun ss cs Ed Q => ∃ (x y z : PyData), ss = [.d x, .d y, .d z] ∧ ShareP x Ed cs fun r => MemP r y Ed cs fun _ => NumP z 0 1000000 Ed cs fun _ => ∀ v, Q v cs
theorem sc_share_renewed : FnScope ["rule", "memory", "wait"] ["rule", "memory", "wait"] (defScope s_share_renewed) := ⟨rfl, rfl, rfl, by decide +kernel, rfl, by decide +kernel, by decide +kernel⟩
theorem ok_share_renewed (T : Txt K mg) (G_check_memory : Cal P w K mg base 6 "_check_memory" ["rule", "memory"] f_check_memory) (G_check_wait : Cal P w K mg base 4 "check_wait" ["wait"] f_check_wait) (G_renew_share : Cal P w K mg base 1 "renew_share" ["rule", "memory", "wait"] f_renew_share) {a : Addr} {fd : FuncData} (F : FunD K "share_renewed" "share_renewed" (defArgs s_share_renewed) (defBody s_share_renewed) (defScope s_share_renewed) [] [] a fd) (hb : Binds K fd ["rule", "memory", "wait"] []) (hm : mg "share_renewed" = some (.ref a)) : Cal P w K mg base 7 "share_renewed" ["rule", "memory", "wait"] f_share_renewed := by
  refine cal_of F sc_share_renewed hb hm (fun ss cs Ed Q h => ?_) (fun cdv A outer s H E hr => (q_scons (q_expr (q_call G_check_memory (hr.mono (by decide)) (passes_call (takes_of rfl rfl rfl rfl) fun _ _ _ _ h => h) (q_consV 0 (pv 0) (q_consV 1 (pv 1) q_nil))))
      (q_scons (q_expr (q_call G_check_wait (hr.mono (by decide)) (passes_call (takes_of rfl rfl rfl rfl) fun _ _ _ _ h => h) (q_consV 2 (pv 2) q_nil)))
      (q_sone (q_ret (q_call G_renew_share (hr.mono (by decide)) (passes_call (takes_of rfl rfl rfl rfl) fun _ _ _ _ h => h) (q_consV 0 (pv 0) (q_consV 1 (pv 1) (q_consV 2 (pv 2) q_nil))))))))) ?_
  · obtain ⟨_, _, _, rfl, _⟩ := h; rfl
  intro ss cs Ed Qd h
  obtain ⟨x, y, z, rfl, h⟩ := h
  refine ⟨x, y, rfl, h.no, fun r ex hr => ⟨(h.ok r ex hr).no, fun m em hm => ?_⟩⟩
  have k := (h.ok r ex hr).ok m em hm
  clear h
  subst ex; subst em
  refine ⟨z, rfl, k.no, fun i ei hi => ?_⟩
  subst ei
  exact ⟨r, m, i, rfl, hr, hm, hi, k.ok i rfl hi _⟩

/-! share_come -/
def f_share_come : FD := fun ss cs Ed Q => ∃ x y : PyData, ss = [.d x, .d y] ∧ ShareP x Ed cs fun r => MemP r y Ed cs fun _ => ∀ v, Q v cs
theorem sc_share_come : FnScope ["rule", "memory"] ["rule", "memory"] (defScope s_share_come) := ⟨rfl, rfl, rfl, by decide +kernel, rfl, by decide +kernel, by decide +kernel⟩
theorem ok_share_come (T : Txt K mg) (G_check_memory : Cal P w K mg base 6 "_check_memory" ["rule", "memory"] f_check_memory) (G_come_share : Cal P w K mg base 1 "come_share" ["memory"] f_come_share) {a : Addr} {fd : FuncData} (F : FunD K "share_come" "share_come" (defArgs s_share_come) (defBody s_share_come) (defScope s_share_come) [] [] a fd) (hb : Binds K fd ["rule", "memory"] []) (hm : mg "share_come" = some (.ref a)) : Cal P w K mg base 7 "share_come" ["rule", "memory"] f_share_come := by
  refine cal_of F sc_share_come hb hm (fun ss cs Ed Q h => ?_) (fun cdv A outer s H E hr => (q_scons (q_expr (q_call G_check_memory (hr.mono (by decide)) (passes_call (takes_of rfl rfl rfl rfl) fun _ _ _ _ h => h) (q_consV 0 (pv 0) (q_consV 1 (pv 1) q_nil))))
      (q_sone (q_ret (q_call G_come_share (hr.mono (by decide)) (passes_call (takes_of rfl rfl rfl rfl) fun _ _ _ _ h => h) (q_consV 1 (pv 1) q_nil)))))) ?_
  · obtain ⟨_, _, rfl, _⟩ := h; rfl
  intro ss cs Ed Qd h
  obtain ⟨x, y, rfl, h⟩ := h
  refine ⟨x, y, rfl, h.no, fun r ex hr => ⟨(h.ok r ex hr).no, fun m em hm => ?_⟩⟩
  have k := (h.ok r ex hr).ok m em hm
  clear h
  subst ex; subst em
  exact ⟨r, m, rfl, hm, k _⟩

/-! share_passed -/
def f_share_passed : FD := fun ss cs Ed Q => ∃ x y : PyData, ss = [.d x, .d y] ∧ ShareP x Ed cs fun r => MemP r y Ed cs fun _ => ∀ v, Q v cs
theorem sc_share_passed : FnScope ["rule", "memory"] ["rule", "memory"] (defScope s_share_passed) := ⟨rfl, rfl, rfl, by decide +kernel, rfl, by decide +kernel, by decide +kernel⟩
theorem ok_share_passed (T : Txt K mg) (G_check_memory : Cal P w K mg base 6 "_check_memory" ["rule", "memory"] f_check_memory) (G_pass_share : Cal P w K mg base 1 "pass_share" ["rule", "memory"] f_pass_share) {a : Addr} {fd : FuncData} (F : FunD K "share_passed" "share_passed" (defArgs s_share_passed) (defBody s_share_passed) (defScope s_share_passed) [] [] a fd) (hb : Binds K fd ["rule", "memory"] []) (hm : mg "share_passed" = some (.ref a)) : Cal P w K mg base 7 "share_passed" ["rule", "memory"] f_share_passed := by
  refine cal_of F sc_share_passed hb hm (fun ss cs Ed Q h => ?_) (fun cdv A outer s H E hr => (q_scons (q_expr (q_call G_check_memory (hr.mono (by decide)) (passes_call (takes_of rfl rfl rfl rfl) fun _ _ _ _ h => h) (q_consV 0 (pv 0) (q_consV 1 (pv 1) q_nil))))
      (q_sone (q_ret (q_call G_pass_share (hr.mono (by decide)) (passes_call (takes_of rfl rfl rfl rfl) fun _ _ _ _ h => h) (q_consV 0 (pv 0) (q_consV 1 (pv 1) q_nil))))))) ?_
  · obtain ⟨_, _, rfl, _⟩ := h; rfl
  intro ss cs Ed Qd h
  obtain ⟨x, y, rfl, h⟩ := h
  refine ⟨x, y, rfl, h.no, fun r ex hr => ⟨(h.ok r ex hr).no, fun m em hm => ?_⟩⟩
  have k := (h.ok r ex hr).ok m em hm
  clear h
  subst ex; subst em
  exact ⟨r, m, rfl, k _⟩

/-! share_struck -/
def f_share_struck : FD := fun ss cs Ed Q => ∃ (x y z : PyData), ss = [.d x, .d y, .d z] ∧ ShareP x Ed cs fun r => MemP r y Ed cs fun _ => NumP z 0 9999 Ed cs fun _ => ∀ v, Q v cs
theorem sc_share_struck : FnScope ["rule", "memory", "many", "now", "numbers", "number", "struck"] ["rule", "memory", "many"] (defScope s_share_struck) := ⟨rfl, rfl, rfl, by decide +kernel, rfl, by decide +kernel, by decide +kernel⟩
theorem ok_share_struck (T : Txt K mg) (G_check_memory : Cal P w K mg base 6 "_check_memory" ["rule", "memory"] f_check_memory) (G_check_number : Cal P w K mg base 3 "check_number" ["thing", "low", "high"] f_check_number) (G_come_share : Cal P w K mg base 1 "come_share" ["memory"] f_come_share) {a : Addr} {fd : FuncData} (F : FunD K "share_struck" "share_struck" (defArgs s_share_struck) (defBody s_share_struck) (defScope s_share_struck) [] [] a fd) (hb : Binds K fd ["rule", "memory", "many"] []) (hm : mg "share_struck" = some (.ref a)) : Cal P w K mg base 7 "share_struck" ["rule", "memory", "many"] f_share_struck := by
  refine cal_of F sc_share_struck hb hm (fun ss cs Ed Q h => ?_) (fun cdv A outer s H E hr => (q_scons (q_expr (q_call G_check_memory (hr.mono (by decide)) (passes_call (takes_of rfl rfl rfl rfl) fun _ _ _ _ h => h) (q_consV 0 (pv 0) (q_consV 1 (pv 1) q_nil))))
      (q_scons (q_expr (q_call G_check_number (hr.mono (by decide)) (passes_call (takes_of rfl rfl rfl rfl) fun _ _ _ _ h => h) (q_consV 2 (pv 2) (q_cons q_int (q_cons (q_globI T.i_MOST_COME) q_nil)))))
      (q_scons (q_set 3 sc_share_struck.nd (q_var 1))
      (q_scons (q_new 4 sc_share_struck.nd (q_nlst q_nil))
      (q_scons (q_for (passes_of rfl) rfl (qi_r1 T.f_range (q_consV 2 (pv 2) q_nil)) (qg_1 5 (pg_name (i := 5) sc_share_struck.nd rfl (by first | exact Or.inl rfl | exact Or.inr rfl)))
      (q_scons (q_unp [3, 6] rfl (pgs_cons (pg_name (i := 3) sc_share_struck.nd rfl (by first | exact Or.inl rfl | exact Or.inr rfl)) (pgs_cons (pg_name (i := 6) sc_share_struck.nd rfl (by first | exact Or.inl rfl | exact Or.inr rfl)) pgs_nil)) (q_call G_come_share (hr.mono (by decide)) (passes_call (takes_of rfl rfl rfl rfl) fun _ _ _ _ h => h) (q_consV 3 (pv 3) q_nil)))
      (q_sone (q_ifS (q_tv (q_var 6))
      (q_sone (q_app 4 (pv 4) (q_var 5)))
      q_snil))))
      (q_sone (q_ret (q_tupleV 4 (pv 4) T.f_tuple))))))))) ?_
  · obtain ⟨_, _, _, rfl, _⟩ := h; rfl
  intro ss cs Ed Qd h
  obtain ⟨x, y, z, rfl, h⟩ := h
  refine ⟨x, y, rfl, h.no, fun r ex hr => ⟨(h.ok r ex hr).no, fun m em hm => ?_⟩⟩
  have k := (h.ok r ex hr).ok m em hm
  clear h
  subst ex; subst em
  refine ⟨z, 0, 9999, rfl, ⟨by decide, by decide⟩, k.no, fun n en hn => ?_⟩
  subst en
  have k := k.ok n rfl hn
  refine ⟨Nat.zero_le _, by omega, by omega, ?_⟩
  refine ⟨fun t ρ cs2 => ∃ x6 x5, ρ = [.d r.d, .d m.d, .d (.int n), .d (comeN m t).d, .c 0, x5, x6] ∧ cs2 = hits m t :: cs, ⟨_, _, rfl, rfl⟩, ?_, ?_⟩
  · rintro t ρ cs2 ht ⟨x6, x5, rfl, rfl⟩
    refine ⟨_, rfl, r, comeN m t, rfl, comeN_ok hm t, _, rfl, ?_⟩
    have hl := hits_len m t
    refine if2 (fun c => ?_) fun c => ?_
    · refine ⟨rfl, _, rfl, lt_line (by omega), _, _, rfl, ?_⟩
      show _ = (hits m t ++ (if hit (comeN m t) = true then [.int t] else [])) :: cs
      rw [if_pos c]
      rfl
    · refine ⟨_, _, rfl, ?_⟩
      show _ = (hits m t ++ (if hit (comeN m t) = true then [.int t] else [])) :: cs
      rw [c, if_neg Bool.false_ne_true, List.append_nil]
      rfl
  · rintro ρ cs2 ⟨x6, x5, rfl, rfl⟩
    exact ⟨_, rfl, k _⟩

end
end Law

namespace Law
open PySem PySem.Spec PyProof.Rows L2 Kp

def bd (b : Bool) (i : Int) : List PyData := if b = true then [] else [.int i]
def accS (r : Rl) (a b c d : PyData) : Nat → List PyData
  | 0 => []
  | 1 => bd (isWi a 0 (r.p - 1)) 0
  | 2 => bd (isWi a 0 (r.p - 1)) 0 ++ bd (isWi b 0 1000) 1
  | 3 => bd (isWi a 0 (r.p - 1)) 0 ++ bd (isWi b 0 1000) 1 ++ bd (isWi c 0 99) 2
  | _ => bd (isWi a 0 (r.p - 1)) 0 ++ bd (isWi b 0 1000) 1 ++ bd (isWi c 0 99) 2 ++ bd (isWi d 0 999) 3
theorem bd_len (b : Bool) (i : Int) : (bd b i).length ≤ 1 := by unfold bd; split <;> simp
theorem accS_len (r : Rl) (a b c d : PyData) (t : Nat) : (accS r a b c d t).length ≤ 4 := by
  have h1 := bd_len (isWi a 0 (r.p - 1)) 0
  have h2 := bd_len (isWi b 0 1000) 1
  have h3 := bd_len (isWi c 0 99) 2
  have h4 := bd_len (isWi d 0 999) 3
  unfold accS
  split <;> (try simp only [List.length_append, List.length_nil]) <;> omega

theorem dand_at {d1 d2 : DT} {ρ : List Sl} {cs : CS} {Ed : XD} {Q : Bool → CS → Prop} {b1 b2 : Bool} (h1 : ∀ Q' : Bool → CS → Prop, Q' b1 cs → d1 ρ cs Ed Q') (h2 : ∀ Q' : Bool → CS → Prop, Q' b2 cs → d2 ρ cs Ed Q') (h : Q (b1 && b2) cs) : dAnd d1 d2 ρ cs Ed Q := h1 _ (by
  cases b1 with
  | true => exact h2 _ h
  | false => exact h)
theorem vor_t {a b : DE} {ρ : List Sl} {cs : CS} {Ed : XD} {Q : PyData → CS → Prop} (h1 : ∀ Q' : PyData → CS → Prop, Q' (.bool true) cs → a ρ cs Ed Q') (h2 : Q (.bool true) cs) : dVor a b ρ cs Ed Q := h1 _ (by
  show if true = true then Q (.bool true) cs else b ρ cs Ed Q
  rw [if_pos rfl]
  exact h2)
theorem vor_f {a b : DE} {ρ : List Sl} {cs : CS} {Ed : XD} {Q : PyData → CS → Prop} (h1 : ∀ Q' : PyData → CS → Prop, Q' (.bool false) cs → a ρ cs Ed Q') (h2 : b ρ cs Ed Q) : dVor a b ρ cs Ed Q := h1 _ (by
  show if false = true then Q (.bool true) cs else b ρ cs Ed Q
  rw [if_neg Bool.false_ne_true]
  exact h2)

theorem dand_t {d1 d2 : DT} {ρ : List Sl} {cs : CS} {Ed : XD} {Q : Bool → CS → Prop} (h1 : ∀ Q' : Bool → CS → Prop, Q' true cs → d1 ρ cs Ed Q') (h2 : d2 ρ cs Ed Q) : dAnd d1 d2 ρ cs Ed Q := h1 _ h2
theorem dand_f {d1 d2 : DT} {ρ : List Sl} {cs : CS} {Ed : XD} {Q : Bool → CS → Prop} (h1 : ∀ Q' : Bool → CS → Prop, Q' false cs → d1 ρ cs Ed Q') (h : Q false cs) : dAnd d1 d2 ρ cs Ed Q := h1 _ h
theorem q_tt {Q' : Bool → CS → Prop} {b : Bool} {cs : CS} (e : b = true) (q : Q' true cs) : Q' b cs := by rw [e]; exact q
def aheadW (x : PyData) : Str := cond (isShareD x) "told" "rule"
def behindW (x y : PyData) : Str := cond (isShareD x) (cond (fitsX x y) "told" "memory") "rule"
def wN (a : Str) (z : PyData) (hi : Int) : Str := cond (decide (a = "told")) (cond (isWi z 0 hi) "told" "number") a
theorem aw_t {x : PyData} (e : isShareD x = true) : aheadW x = "told" := congrArg (fun b => cond b ("told" : Str) ("rule" : Str)) e
theorem aw_r {x : PyData} (e : isShareD x = false) : aheadW x = "rule" := congrArg (fun b => cond b ("told" : Str) ("rule" : Str)) e
theorem bw_r {x y : PyData} (e : isShareD x = false) : behindW x y = "rule" := congrArg (fun b => cond b (cond (fitsX x y) ("told" : Str) "memory") ("rule" : Str)) e
theorem bw_t {x y : PyData} (e : isShareD x = true) (e2 : fitsX x y = true) : behindW x y = "told" := (congrArg (fun b => cond b (cond (fitsX x y) ("told" : Str) "memory") ("rule" : Str)) e).trans (congrArg (fun b => cond b ("told" : Str) "memory") e2)
theorem bw_m {x y : PyData} (e : isShareD x = true) (e2 : fitsX x y = false) : behindW x y = "memory" := (congrArg (fun b => cond b (cond (fitsX x y) ("told" : Str) "memory") ("rule" : Str)) e).trans (congrArg (fun b => cond b ("told" : Str) "memory") e2)
theorem wN_no {a : Str} {z : PyData} {hi : Int} (e : ¬ a = "told") : wN a z hi = a := congrArg (fun b => cond b (cond (isWi z 0 hi) ("told" : Str) "number") a) (decide_eq_false e)
theorem wN_t {z : PyData} {hi : Int} (e : isWi z 0 hi = true) : wN "told" z hi = "told" := (congrArg (fun b => cond b (cond (isWi z 0 hi) ("told" : Str) "number") ("told" : Str)) (decide_eq_true (rfl : ("told" : Str) = "told"))).trans (congrArg (fun b => cond b ("told" : Str) "number") e)
theorem wN_n {z : PyData} {hi : Int} (e : isWi z 0 hi = false) : wN "told" z hi = "number" := (congrArg (fun b => cond b (cond (isWi z 0 hi) ("told" : Str) "number") ("told" : Str)) (decide_eq_true (rfl : ("told" : Str) = "told"))).trans (congrArg (fun b => cond b ("told" : Str) "number") e)
def wordL (nm : Str) : Str := if nm = "NoRule" then "rule" else if nm = "NoMemory" then "memory" else "number"
theorem wR : wordL "NoRule" = "rule" := by decide +kernel
theorem wM : wordL "NoMemory" = "memory" := by decide +kernel
theorem wNo : wordL "NoNumber" = "number" := by decide +kernel
abbrev WX (Q : PyData → CS → Prop) : XD := fun nm cs1 => nm ∈ DsX ∧ Q (.str (wordL nm)) cs1
theorem num_w {z : PyData} {hi : Int} {cs : CS} {Q : PyData → CS → Prop} (h : Q (.str (wN "told" z hi)) cs) : NumP z 0 hi (WX Q) cs fun _ => ∀ _ : PyData, Q (.str "told") cs := by
  refine ⟨fun e => ⟨by decide +kernel, ?_⟩, fun i e hi _ => ?_⟩
  · rw [wNo]; rw [wN_n e] at h; exact h
  · rw [wN_t (by rw [e]; exact isWi_yes hi)] at h; exact h
theorem lk_w {x y z : PyData} {hi : Int} {cs : CS} {Q : PyData → CS → Prop} (h : Q (.str (wN (behindW x y) z hi)) cs) : ShareP x (WX Q) cs fun r => MemP r y (WX Q) cs fun _ => NumP z 0 hi (WX Q) cs fun _ => ∀ _ : PyData, Q (.str "told") cs := by
  refine ⟨fun e => ⟨by decide +kernel, ?_⟩, fun r ex ho => ⟨fun e => ⟨by decide +kernel, ?_⟩, fun m ey hm => num_w ?_⟩⟩
  · rw [bw_r e, wN_no (by decide +kernel)] at h; rw [wR]; exact h
  · rw [bw_m (by rw [ex]; exact Rl.isD ho) (by rw [ex]; exact e), wN_no (by decide +kernel)] at h; rw [wM]; exact h
  · rw [bw_t (by rw [ex]; exact Rl.isD ho) (by rw [ex, ey]; exact (fitsX_d r m.d).trans (fitsS_ok hm))] at h; exact h
theorem lp_w {x y : PyData} {cs : CS} {Q : PyData → CS → Prop} (h : Q (.str (behindW x y)) cs) : ShareP x (WX Q) cs fun r => MemP r y (WX Q) cs fun _ => ∀ _ : PyData, Q (.str "told") cs := by
  refine ⟨fun e => ⟨by decide +kernel, ?_⟩, fun r ex ho => ⟨fun e => ⟨by decide +kernel, ?_⟩, fun m ey hm _ => ?_⟩⟩
  · rw [bw_r e] at h; rw [wR]; exact h
  · rw [bw_m (by rw [ex]; exact Rl.isD ho) (by rw [ex]; exact e)] at h; rw [wM]; exact h
  · rw [bw_t (by rw [ex]; exact Rl.isD ho) (by rw [ex, ey]; exact (fitsX_d r m.d).trans (fitsS_ok hm))] at h; exact h
theorem cond_sh {b : Bool} {x y : Str} (hx : SeqAt.shaped (.str x) = true) (hy : SeqAt.shaped (.str y) = true) : SeqAt.shaped (.str (cond b x y)) = true := by
  cases b
  · exact hy
  · exact hx
theorem aw_sh {x : PyData} : SeqAt.shaped (.str (aheadW x)) = true := cond_sh (by decide +kernel) (by decide +kernel)
theorem bw_sh {x y : PyData} : SeqAt.shaped (.str (behindW x y)) = true := cond_sh (cond_sh (by decide +kernel) (by decide +kernel)) (by decide +kernel)
theorem wN_sh {a : Str} {z : PyData} {hi : Int} (ha : SeqAt.shaped (.str a) = true) : SeqAt.shaped (.str (wN a z hi)) = true := cond_sh (cond_sh (by decide +kernel) (by decide +kernel)) ha
def MetX : FM := fun B cs Q => B cs (WX Q) fun _ cs1 => Q (.str "told") cs1
theorem by_lk {B : DB} {x y z : PyData} {hi : Int} {cs : CS} {Q : PyData → CS → Prop} (hB : ∀ (Ed : XD) (Q1 : PyData → CS → Prop), (ShareP x Ed cs fun r => MemP r y Ed cs fun _ => NumP z 0 hi Ed cs fun _ => ∀ v, Q1 v cs) → B cs Ed Q1) (h : Q (.str (wN (behindW x y) z hi)) cs) : MetX B cs Q := hB _ _ (lk_w h)
theorem by_lp {B : DB} {x y : PyData} {cs : CS} {Q : PyData → CS → Prop} (hB : ∀ (Ed : XD) (Q1 : PyData → CS → Prop), (ShareP x Ed cs fun r => MemP r y Ed cs fun _ => ∀ v, Q1 v cs) → B cs Ed Q1) (h : Q (.str (behindW x y)) cs) : MetX B cs Q := hB _ _ (lp_w h)
theorem by_lf {B : DB} {x : PyData} {cs : CS} {Q : PyData → CS → Prop} (hB : ∀ (Ed : XD) (Q1 : PyData → CS → Prop), (isShareD x = false → Ed "NoRule" cs) → (isShareD x = true → ∀ v, Q1 v cs) → B cs Ed Q1) (h : Q (.str (aheadW x)) cs) : MetX B cs Q := hB _ _ (fun e => ⟨by decide +kernel, by rw [aw_r e] at h; rw [wR]; exact h⟩) fun e _ => by rw [aw_t e] at h; exact h
section
variable {P : Program} {w : World} {K : Frag} {mg : Str → Option Value} {base : Heap}
/-! _law_word -/
def f_law_word : FD := fun ss cs _ Q => ∃ nm : Str, ss = [.x nm] ∧ nm ∈ DsX ∧ Q (.str (wordL nm)) cs
theorem sc_law_word : FnScope ["caught", "some", "others"] ["caught"] (defScope s_law_word) := ⟨rfl, rfl, rfl, by decide +kernel, rfl, by decide +kernel, by decide +kernel⟩
theorem ok_law_word (T : Txt K mg) {a : Addr} {fd : FuncData} (F : FunD K "_law_word" "_law_word" (defArgs s_law_word) (defBody s_law_word) (defScope s_law_word) [] [] a fd) (hb : Binds K fd ["caught"] []) (hm : mg "_law_word" = some (.ref a)) : CalT P w K mg base 1 "_law_word" ["caught"] f_law_word := by
  refine calT_of F sc_law_word hb hm (fun ss cs Ed Q h => ?_) (fun cdv A outer s H E hr => (q_scons (q_set 1 sc_law_word.nd (q_lst (q_cons (q_isX 0 DsX (fun d => d == ("NoRule" : Str)) (pv 0) (pe_glob (v := .ref (He.ga K "NoRule")) (by rfl) (T.er.x "NoRule" (by decide +kernel)) rfl (by decide)) (fun u r => r) (fun d hd => ⟨T.er.i d hd, T.er.k d hd "NoRule" (by decide +kernel) (nlE d hd) (by decide +kernel)⟩) T.f_isinstance) (q_cons (q_isX 0 DsX (fun d => d == ("NoMemory" : Str)) (pv 0) (pe_glob (v := .ref (He.ga K "NoMemory")) (by rfl) (T.er.x "NoMemory" (by decide +kernel)) rfl (by decide)) (fun u r => r) (fun d hd => ⟨T.er.i d hd, T.er.k d hd "NoMemory" (by decide +kernel) (nlE d hd) (by decide +kernel)⟩) T.f_isinstance) (q_cons (q_isX 0 DsX (fun d => d == ("NoNumber" : Str)) (pv 0) (pe_glob (v := .ref (He.ga K "NoNumber")) (by rfl) (T.er.x "NoNumber" (by decide +kernel)) rfl (by decide)) (fun u r => r) (fun d hd => ⟨T.er.i d hd, T.er.k d hd "NoNumber" (by decide +kernel) (nlE d hd) (by decide +kernel)⟩) T.f_isinstance) q_nil)))))
      (q_scons (q_set 2 sc_law_word.nd (q_isXT 0 DsX (fun d => (["NoStreams", "NoComers", "NoRate", "NoStream", "NoLane", "NoStanding", "NoDeed", "NoRun"] : List Str).any fun c => d == c) (pv 0) (nm_cons (T.er.x "NoStreams" (by decide +kernel)) (nm_cons (T.er.x "NoComers" (by decide +kernel)) (nm_cons (T.er.x "NoRate" (by decide +kernel)) (nm_cons (T.er.x "NoStream" (by decide +kernel)) (nm_cons (T.er.x "NoLane" (by decide +kernel)) (nm_cons (T.er.x "NoStanding" (by decide +kernel)) (nm_cons (T.er.x "NoDeed" (by decide +kernel)) (nm_cons (T.er.x "NoRun" (by decide +kernel)) nm_nil)))))))) (fun d hd => ⟨T.er.i d hd, kitAny_of fun c hc => T.er.k d hd c ((by decide +kernel : ∀ c ∈ (["NoStreams", "NoComers", "NoRate", "NoStream", "NoLane", "NoStanding", "NoDeed", "NoRun"] : List Str), c ∈ ClX) c hc) (nlE d hd) ((by decide +kernel : ∀ c ∈ (["NoStreams", "NoComers", "NoRate", "NoStream", "NoLane", "NoStanding", "NoDeed", "NoRun"] : List Str), (c == ("LineError" : Str)) = false) c hc)⟩) T.f_isinstance))
      (q_scons (q_ifS (q_w (q_or (q_tcmp (op_neD (roomH_units hr)) sr_ne (q_cntT 1 (pv 1)) q_int) (q_or (q_tv (q_var 2)) (q_or1 (q_not (q_tv (q_isX 0 DsX (fun _ => true) (pv 0) (pe_bltn (v := .ty "ValueError") (by rfl) T.f_ValueError (by decide +kernel) rfl (by decide) (by decide)) (fun u r => r) (fun d hd => ⟨T.er.i d hd, T.er.v d hd⟩) T.f_isinstance)))))))
      (q_sone (q_ret q_str))
      q_snil)
      (q_sone (q_ret (q_ix (q_lst (q_cons q_str (q_cons q_str (q_cons q_str q_nil)))) (q_idxT 1 (pv 1))))))))) ?_
  · obtain ⟨_, rfl, _⟩ := h; rfl
  intro ss cs Ed Qd h
  obtain ⟨nm, rfl, hm, h⟩ := h
  have l3 := le_line (show 3 ≤ 100000 by decide)
  rcases List.mem_cons.mp hm with rfl | hm
  · have hd : ("NoRule" : Str) ∈ DsX := by decide +kernel
    refine ⟨hd, hd, hd, l3, hd, ?_⟩
    dsimp only [DN.push, dNext, dSeq]
    refine if_mid false (fun Qb q => dor_at (b1 := false) (b2 := false) (fun Q' z => ⟨[("NoRule" : Str) == "NoRule", ("NoRule" : Str) == "NoMemory", ("NoRule" : Str) == "NoNumber"], rfl, rfl, rfl, q_to (by decide +kernel) z⟩) (fun Q' z => dor_at (b1 := false) (b2 := false) (fun Q2 z => ?_) (fun Q2 z => ⟨hd, z⟩) z) q) (ifF rfl ?_)
    · show Q2 ((["NoStreams", "NoComers", "NoRate", "NoStream", "NoLane", "NoStanding", "NoDeed", "NoRun"] : List Str).any fun c => ("NoRule" : Str) == c) cs
      exact q_to (by decide +kernel) z
    · exact ⟨l3, [("NoRule" : Str) == "NoRule", ("NoRule" : Str) == "NoMemory", ("NoRule" : Str) == "NoNumber"], 0, rfl, by decide +kernel, by decide +kernel, _, rfl, h⟩
  rcases List.mem_cons.mp hm with rfl | hm
  · have hd : ("NoMemory" : Str) ∈ DsX := by decide +kernel
    refine ⟨hd, hd, hd, l3, hd, ?_⟩
    dsimp only [DN.push, dNext, dSeq]
    refine if_mid false (fun Qb q => dor_at (b1 := false) (b2 := false) (fun Q' z => ⟨[("NoMemory" : Str) == "NoRule", ("NoMemory" : Str) == "NoMemory", ("NoMemory" : Str) == "NoNumber"], rfl, rfl, rfl, q_to (by decide +kernel) z⟩) (fun Q' z => dor_at (b1 := false) (b2 := false) (fun Q2 z => ?_) (fun Q2 z => ⟨hd, z⟩) z) q) (ifF rfl ?_)
    · show Q2 ((["NoStreams", "NoComers", "NoRate", "NoStream", "NoLane", "NoStanding", "NoDeed", "NoRun"] : List Str).any fun c => ("NoMemory" : Str) == c) cs
      exact q_to (by decide +kernel) z
    · exact ⟨l3, [("NoMemory" : Str) == "NoRule", ("NoMemory" : Str) == "NoMemory", ("NoMemory" : Str) == "NoNumber"], 1, rfl, by decide +kernel, by decide +kernel, _, rfl, h⟩
  obtain rfl := List.mem_singleton.mp hm
  · have hd : ("NoNumber" : Str) ∈ DsX := by decide +kernel
    refine ⟨hd, hd, hd, l3, hd, ?_⟩
    dsimp only [DN.push, dNext, dSeq]
    refine if_mid false (fun Qb q => dor_at (b1 := false) (b2 := false) (fun Q' z => ⟨[("NoNumber" : Str) == "NoRule", ("NoNumber" : Str) == "NoMemory", ("NoNumber" : Str) == "NoNumber"], rfl, rfl, rfl, q_to (by decide +kernel) z⟩) (fun Q' z => dor_at (b1 := false) (b2 := false) (fun Q2 z => ?_) (fun Q2 z => ⟨hd, z⟩) z) q) (ifF rfl ?_)
    · show Q2 ((["NoStreams", "NoComers", "NoRate", "NoStream", "NoLane", "NoStanding", "NoDeed", "NoRun"] : List Str).any fun c => ("NoNumber" : Str) == c) cs
      exact q_to (by decide +kernel) z
    · exact ⟨l3, [("NoNumber" : Str) == "NoRule", ("NoNumber" : Str) == "NoMemory", ("NoNumber" : Str) == "NoNumber"], 2, rfl, by decide +kernel, by decide +kernel, _, rfl, h⟩

/-! _law_share_memory -/
def f_law_share_memory : FD := fun ss cs _ Q => ∃ (j B : Nat) (r : Rl), ss = [.c j, .d r.d] ∧ r.Ok ∧ PotAt cs j B ∧ B ≤ 2 ^ 38 ∧ ∀ (ds : List PyData) cs', ds.length = 4 → (∀ y ∈ ds, El "share" y) → Chg j cs cs' → PotAt cs' j (B + 30) → Q (.tuple ds) cs'

theorem sc_law_share_memory : FnScope ["pot", "rule", "phase", "share", "old"] ["pot", "rule"] (defScope s_law_share_memory) := ⟨rfl, rfl, rfl, by decide +kernel, rfl, by decide +kernel, by decide +kernel⟩
theorem ok_law_share_memory (T : Txt K mg) (G_law_take : Cal P w K mg base 1 "_law_take" ["pot", "many"] f_law_take) {a : Addr} {fd : FuncData} (F : FunD K "_law_share_memory" "_law_share_memory" (defArgs s_law_share_memory) (defBody s_law_share_memory) (defScope s_law_share_memory) [] [] a fd) (hb : Binds K fd ["pot", "rule"] []) (hm : mg "_law_share_memory" = some (.ref a)) : Cal P w K mg base 2 "_law_share_memory" ["pot", "rule"] f_law_share_memory := by
  refine cal_of F sc_law_share_memory hb hm (fun ss cs Ed Q h => ?_) (fun cdv A outer s H E hr => (q_scons (q_set 2 sc_law_share_memory.nd (q_ix (q_lst (q_cons q_int (q_cons (q_bin op_sub sr_sub (q_ixV 1 (pv 1) q_int) q_int) (q_cons (q_call G_law_take (hr.mono (by decide)) (passes_call (takes_of rfl rfl rfl rfl) fun _ _ _ _ h => h) (q_consV 0 (pv 0) (q_cons (q_ixV 1 (pv 1) q_int) q_nil))) q_nil)))) (q_call G_law_take (hr.mono (by decide)) (passes_call (takes_of rfl rfl rfl rfl) fun _ _ _ _ h => h) (q_consV 0 (pv 0) (q_cons q_int q_nil)))))
      (q_scons (q_set 3 sc_law_share_memory.nd (q_ix (q_lst (q_cons q_int (q_cons q_int (q_cons (q_call G_law_take (hr.mono (by decide)) (passes_call (takes_of rfl rfl rfl rfl) fun _ _ _ _ h => h) (q_consV 0 (pv 0) (q_cons q_int q_nil))) (q_cons q_int q_nil))))) (q_call G_law_take (hr.mono (by decide)) (passes_call (takes_of rfl rfl rfl rfl) fun _ _ _ _ h => h) (q_consV 0 (pv 0) (q_cons q_int q_nil)))))
      (q_scons (q_set 4 sc_law_share_memory.nd (q_ix (q_lst (q_cons q_int (q_cons q_int (q_cons (q_call G_law_take (hr.mono (by decide)) (passes_call (takes_of rfl rfl rfl rfl) fun _ _ _ _ h => h) (q_consV 0 (pv 0) (q_cons q_int q_nil))) q_nil)))) (q_call G_law_take (hr.mono (by decide)) (passes_call (takes_of rfl rfl rfl rfl) fun _ _ _ _ h => h) (q_consV 0 (pv 0) (q_cons q_int q_nil)))))
      (q_sone (q_ret (q_tup (q_consV 2 (pv 2) (q_consV 3 (pv 3) (q_consV 4 (pv 4) (q_cons (q_ix (q_lst (q_cons q_int (q_cons q_int (q_cons (q_call G_law_take (hr.mono (by decide)) (passes_call (takes_of rfl rfl rfl rfl) fun _ _ _ _ h => h) (q_consV 0 (pv 0) (q_cons q_int q_nil))) q_nil)))) (q_call G_law_take (hr.mono (by decide)) (passes_call (takes_of rfl rfl rfl rfl) fun _ _ _ _ h => h) (q_consV 0 (pv 0) (q_cons q_int q_nil)))) q_nil))))))))))) ?_
  · obtain ⟨_, _, _, rfl, _⟩ := h; rfl
  intro ss cs Ed Qd h
  obtain ⟨j, B, r, rfl, hr, hp0, hB, h⟩ := h
  have l3 := le_line (show 3 ≤ 100000 by decide)
  have l4 := le_line (show 4 ≤ 100000 by decide)
  have h1 := hr.p
  refine ⟨rfl, _, _, rfl, rfl, rfl, _, _, rfl, rfl, j, _, _, rfl, hp0, by omega, ⟨by omega, by omega⟩, fun r1 cs1 hr1 hc1 hp1 => ?_⟩
  refine ⟨l3, j, _, _, rfl, hp1, by omega, ⟨by decide, by decide⟩, fun r2 cs2 hr2 hc2 hp2 => ?_⟩
  obtain ⟨z1, a1, b1, c1⟩ := pickI (lo := 0) (hi := 98) (ds := [.int 0, .int (r.p - 1), .int r1]) (i := r2) (.cons (by omega) (by omega) (.cons (by omega) (by omega) (.cons (by omega) (by omega) .nil))) (by omega) (by show r2 < 3; omega)
  refine ⟨_, a1, j, _, _, rfl, hp2, by omega, ⟨by decide, by decide⟩, fun r3 cs3 hr3 hc3 hp3 => ?_⟩
  refine ⟨l4, j, _, _, rfl, hp3, by omega, ⟨by decide, by decide⟩, fun r4 cs4 hr4 hc4 hp4 => ?_⟩
  obtain ⟨z2, a2, b2, c2⟩ := pickI (lo := 0) (hi := 1000) (ds := [.int 0, .int 1000, .int r3, .int 333]) (i := r4) (.cons (by omega) (by omega) (.cons (by omega) (by omega) (.cons (by omega) (by omega) (.cons (by omega) (by omega) .nil)))) (by omega) (by show r4 < 4; omega)
  refine ⟨_, a2, j, _, _, rfl, hp4, by omega, ⟨by decide, by decide⟩, fun r5 cs5 hr5 hc5 hp5 => ?_⟩
  refine ⟨l3, j, _, _, rfl, hp5, by omega, ⟨by decide, by decide⟩, fun r6 cs6 hr6 hc6 hp6 => ?_⟩
  obtain ⟨z3, a3, b3, c3⟩ := pickI (lo := 0) (hi := 99) (ds := [.int 0, .int 99, .int r5]) (i := r6) (.cons (by omega) (by omega) (.cons (by omega) (by omega) (.cons (by omega) (by omega) .nil))) (by omega) (by show r6 < 3; omega)
  refine ⟨_, a3, j, _, _, rfl, hp6, by omega, ⟨by decide, by decide⟩, fun r7 cs7 hr7 hc7 hp7 => ?_⟩
  refine ⟨l3, j, _, _, rfl, hp7, by omega, ⟨by decide, by decide⟩, fun r8 cs8 hr8 hc8 hp8 => ?_⟩
  obtain ⟨z4, a4, b4, c4⟩ := pickI (lo := 0) (hi := 999) (ds := [.int 0, .int 999, .int r7]) (i := r8) (.cons (by omega) (by omega) (.cons (by omega) (by omega) (.cons (by omega) (by omega) .nil))) (by omega) (by show r8 < 3; omega)
  refine ⟨_, a4, l4, ?_⟩
  refine h [.int z1, .int z2, .int z3, .int z4] cs8 rfl (fun y hy => ?_) (((((((hc1.trans hc2).trans hc3).trans hc4).trans hc5).trans hc6).trans hc7).trans hc8) (hp8.mono (by omega))
  rcases List.mem_cons.mp hy with rfl | hy
  · exact int_el (by omega) (by omega)
  rcases List.mem_cons.mp hy with rfl | hy
  · exact int_el (by omega) (by omega)
  rcases List.mem_cons.mp hy with rfl | hy
  · exact int_el (by omega) (by omega)
  rw [List.mem_singleton.mp hy]
  exact int_el (by omega) (by omega)

/-! _law_is_share -/
def f_law_is_share : FD := fun ss cs _ Q => ∃ x, ss = [.d x] ∧ Th "share" x ∧ Q (.bool (isShareD x)) cs
theorem sc_law_is_share : FnScope ["thing"] ["thing"] (defScope s_law_is_share) := ⟨rfl, rfl, rfl, by decide +kernel, rfl, by decide +kernel, by decide +kernel⟩
theorem ok_law_is_share (T : Txt K mg) (G_law_whole : Cal P w K mg base 1 "_law_whole" ["thing", "least", "most"] f_law_whole) {a : Addr} {fd : FuncData} (F : FunD K "_law_is_share" "_law_is_share" (defArgs s_law_is_share) (defBody s_law_is_share) (defScope s_law_is_share) [] [] a fd) (hb : Binds K fd ["thing"] []) (hm : mg "_law_is_share" = some (.ref a)) : CalG P w K mg base 2 "_law_is_share" ["thing"] f_law_is_share := by
  refine calG_of F sc_law_is_share hb hm (fun ss cs Ed Q h => ?_) (fun cdv A outer s H E hr gd => (q_scons (q_ifS (q_w (q_or (q_not (q_tv (q_isi "tuple" (q_var 0) T.f_isinstance T.f_tuple (by decide +kernel)))) (q_or (q_tcmp (op_neD hr.units) sr_ne (q_lenV 0 (pv 0) T.f_len) q_int) (q_or1 (q_tcmp op_ne sr_neT (q_cb (call_repr_a gd (room100 hr)) sc_reprA T.f_repr (by decide +kernel) (q_cons (q_ixV 0 (pv 0) q_int) q_nil)) (q_cb (call_repr_a gd (room100 hr)) sc_reprA T.f_repr (by decide +kernel) (q_cons q_str q_nil)))))))
      (q_sone (q_ret q_bl))
      q_snil)
      (q_scons (q_ifS (q_w (q_or (q_not (q_tv (q_call G_law_whole (hr.mono (by decide)) (passes_call (takes_of rfl rfl rfl rfl) fun _ _ _ _ h => h) (q_cons (q_ixV 0 (pv 0) q_int) (q_cons q_int (q_cons q_int q_nil)))))) (q_or1 (q_not (q_tv (q_call G_law_whole (hr.mono (by decide)) (passes_call (takes_of rfl rfl rfl rfl) fun _ _ _ _ h => h) (q_cons (q_ixV 0 (pv 0) q_int) (q_cons q_int (q_cons q_int q_nil)))))))))
      (q_sone (q_ret q_bl))
      q_snil)
      (q_sone (q_ret (q_vand (q_call G_law_whole (hr.mono (by decide)) (passes_call (takes_of rfl rfl rfl rfl) fun _ _ _ _ h => h) (q_cons (q_ixV 0 (pv 0) q_int) (q_cons q_int (q_cons q_int q_nil)))) (q_v1 (q_call G_law_whole (hr.mono (by decide)) (passes_call (takes_of rfl rfl rfl rfl) fun _ _ _ _ h => h) (q_cons (q_ixV 0 (pv 0) q_int) (q_cons q_int (q_cons q_int q_nil))))))))))) ?_
  · obtain ⟨_, rfl, _⟩ := h; rfl
  intro ss cs Ed Qd h
  obtain ⟨x, rfl, hx, h⟩ := h
  cases x with
  | none => exact ⟨false, rfl, h⟩
  | bool _ => exact ⟨false, rfl, h⟩
  | int _ => exact ⟨false, rfl, h⟩
  | str _ => exact ⟨false, rfl, h⟩
  | list _ => exact ⟨false, rfl, h⟩
  | dict _ => exact ⟨false, rfl, h⟩
  | tuple ds =>
    by_cases hl : ds.length = 5
    · obtain ⟨w, m, p, u, t, rfl⟩ := len5 hl
      have hw := hx _ rfl w List.mem_cons_self
      have h' : Qd (.bool (PyData.eqv w (.str "share") && (isWi m 1 99 && (isWi p 1 99 && (isWi u 0 999 && isWi t 0 999))))) cs := h
      refine ⟨true, rfl, _, rfl, rfl, rfl, ifNT (lenEq rfl) ?_⟩
      refine ⟨rfl, _, w, rfl, rfl, hw.r, ?_⟩
      refine ⟨le_line (by decide +kernel), ?_⟩
      show (if (!(rpr w == rpr (.str "share"))) = true then _ else _)
      rw [hw.t]
      cases c1 : PyData.eqv w (.str "share") with
      | false =>
        rw [c1, Bool.false_and] at h'
        exact ifNF rfl h'
      | true =>
        rw [c1, Bool.true_and] at h'
        refine ifNT rfl ?_
        dsimp only [DN.push, dNext, dSeq]
        refine if_mid (!isWi m 1 99 || !isWi p 1 99) (fun Qb q => dor_at (b1 := !isWi m 1 99) (b2 := !isWi p 1 99) (fun Q' z => ⟨rfl, _, m, rfl, rfl, m, 1, 99, rfl, z⟩) (fun Q' z => ⟨rfl, _, p, rfl, rfl, p, 1, 99, rfl, z⟩) q) ?_
        cases c2 : isWi m 1 99 with
        | false =>
          rw [c2, Bool.false_and] at h'
          exact ifT rfl h'
        | true =>
          rw [c2, Bool.true_and] at h'
          cases c3 : isWi p 1 99 with
          | false =>
            rw [c3, Bool.false_and] at h'
            exact ifT rfl h'
          | true =>
            rw [c3, Bool.true_and] at h'
            refine ifF rfl ?_
            dsimp only [dNext, DN.push]
            show dVand _ _ _ _ _ _
            cases c4 : isWi u 0 999 with
            | false =>
              rw [c4, Bool.false_and] at h'
              exact vand_f (fun Q' z => ⟨rfl, _, u, rfl, rfl, u, 0, 999, rfl, by rw [c4]; exact z⟩) h'
            | true =>
              rw [c4, Bool.true_and] at h'
              exact vand_t (fun Q' z => ⟨rfl, _, u, rfl, rfl, u, 0, 999, rfl, by rw [c4]; exact z⟩) ⟨rfl, _, t, rfl, rfl, t, 0, 999, rfl, h'⟩
    · rw [not5 hl] at h
      exact ⟨true, rfl, _, rfl, rfl, rfl, ifNF (lenNe (by omega)) h⟩

/-! _law_is_share_memory -/
def f_law_is_share_memory : FD := fun ss cs _ Q => ∃ (r : Rl) (x : PyData), ss = [.d r.d, .d x] ∧ Q (.bool (fitsS r x)) cs
theorem sc_law_is_share_memory : FnScope ["rule", "thing", "most", "at"] ["rule", "thing"] (defScope s_law_is_share_memory) := ⟨rfl, rfl, rfl, by decide +kernel, rfl, by decide +kernel, by decide +kernel⟩
theorem ok_law_is_share_memory (T : Txt K mg) (G_law_whole : Cal P w K mg base 1 "_law_whole" ["thing", "least", "most"] f_law_whole) {a : Addr} {fd : FuncData} (F : FunD K "_law_is_share_memory" "_law_is_share_memory" (defArgs s_law_is_share_memory) (defBody s_law_is_share_memory) (defScope s_law_is_share_memory) [] [] a fd) (hb : Binds K fd ["rule", "thing"] []) (hm : mg "_law_is_share_memory" = some (.ref a)) : Cal P w K mg base 2 "_law_is_share_memory" ["rule", "thing"] f_law_is_share_memory := by
  refine cal_of F sc_law_is_share_memory hb hm (fun ss cs Ed Q h => ?_) (fun cdv A outer s H E hr => (q_scons (q_ifS (q_w (q_or (q_not (q_tv (q_isi "tuple" (q_var 1) T.f_isinstance T.f_tuple (by decide +kernel)))) (q_or1 (q_tcmp (op_neD hr.units) sr_ne (q_lenV 1 (pv 1) T.f_len) q_int))))
      (q_sone (q_ret q_bl))
      q_snil)
      (q_scons (q_set 2 sc_law_is_share_memory.nd (q_lst (q_cons (q_bin op_sub sr_sub (q_ixV 0 (pv 0) q_int) q_int) (q_cons q_int (q_cons q_int (q_cons q_int q_nil))))))
      (q_sone (q_ret (q_cmp (op_eqLN hr.units) sr_eqLN (q_ofN (q_lcif (x := "at") 3 rfl sc_law_is_share_memory.nd (qi_r1 T.f_range (q_cons q_int q_nil)) (blkOk_by (N := ["rule", "thing", "most", "at"]) (sc := defScope s_law_is_share_memory) (by decide +kernel)) (fun _ _ _ _ _ => (pg_name (i := 3) sc_law_is_share_memory.nd rfl (by first | exact Or.inl rfl | exact Or.inr rfl))) (fun _ _ _ _ _ => (q_not (q_tv (q_call G_law_whole (hr.mono (by decide)) passL (q_cons (q_ixV 1 (pv 1) (q_var 3)) (q_cons q_int (q_cons (q_ixV 2 (pv 2) (q_var 3)) q_nil))))))) (fun _ _ _ _ _ => (q_var 3)))) (q_lst q_nil))))))) ?_
  · obtain ⟨_, _, rfl, _⟩ := h; rfl
  intro ss cs Ed Qd h
  obtain ⟨r, x, rfl, h⟩ := h
  cases x with
  | none => exact ⟨false, rfl, h⟩
  | bool _ => exact ⟨false, rfl, h⟩
  | int _ => exact ⟨false, rfl, h⟩
  | str _ => exact ⟨false, rfl, h⟩
  | list _ => exact ⟨false, rfl, h⟩
  | dict _ => exact ⟨false, rfl, h⟩
  | tuple ds =>
    by_cases hl : ds.length = 4
    · obtain ⟨a, b, c, d, rfl⟩ := len4 hl
      have h' : Qd (.bool (isWi a 0 (r.p - 1) && (isWi b 0 1000 && (isWi c 0 99 && isWi d 0 999)))) cs := h
      refine ⟨true, rfl, _, rfl, rfl, rfl, ifNT (lenEq rfl) ?_⟩
      refine ⟨rfl, _, _, rfl, rfl, le_line (show 4 ≤ 100000 by decide), by decide, by decide, ?_⟩
      refine ⟨fun k acc cs' => acc = accS r a b c d k ∧ cs' = cs, ⟨rfl, rfl⟩, ?_, ?_⟩
      · rintro k acc cs' hk ⟨rfl, rfl⟩
        obtain rfl | rfl | rfl | rfl : k = 0 ∨ k = 1 ∨ k = 2 ∨ k = 3 := by have : k < 4 := hk; omega
        · refine ⟨rfl, _, a, rfl, rfl, rfl, _, _, rfl, rfl, a, 0, (r.p - 1), rfl, ?_⟩
          have e : accS r a b c d 1 = accS r a b c d 0 ++ bd (isWi a 0 (r.p - 1)) 0 := by first | rfl | exact (List.nil_append _).symm
          cases cw : isWi a 0 (r.p - 1) with
          | true => exact ifF rfl ⟨by rw [e, cw]; unfold bd; rw [if_pos rfl, List.append_nil], rfl⟩
          | false => exact ifT rfl ⟨lt_line (Nat.le_trans (accS_len r a b c d 0) (by decide)), by rw [e, cw]; unfold bd; rw [if_neg Bool.false_ne_true]; rfl, rfl⟩
        · refine ⟨rfl, _, b, rfl, rfl, rfl, _, _, rfl, rfl, b, 0, 1000, rfl, ?_⟩
          have e : accS r a b c d 2 = accS r a b c d 1 ++ bd (isWi b 0 1000) 1 := by first | rfl | exact (List.nil_append _).symm
          cases cw : isWi b 0 1000 with
          | true => exact ifF rfl ⟨by rw [e, cw]; unfold bd; rw [if_pos rfl, List.append_nil], rfl⟩
          | false => exact ifT rfl ⟨lt_line (Nat.le_trans (accS_len r a b c d 1) (by decide)), by rw [e, cw]; unfold bd; rw [if_neg Bool.false_ne_true]; rfl, rfl⟩
        · refine ⟨rfl, _, c, rfl, rfl, rfl, _, _, rfl, rfl, c, 0, 99, rfl, ?_⟩
          have e : accS r a b c d 3 = accS r a b c d 2 ++ bd (isWi c 0 99) 2 := by first | rfl | exact (List.nil_append _).symm
          cases cw : isWi c 0 99 with
          | true => exact ifF rfl ⟨by rw [e, cw]; unfold bd; rw [if_pos rfl, List.append_nil], rfl⟩
          | false => exact ifT rfl ⟨lt_line (Nat.le_trans (accS_len r a b c d 2) (by decide)), by rw [e, cw]; unfold bd; rw [if_neg Bool.false_ne_true]; rfl, rfl⟩
        · refine ⟨rfl, _, d, rfl, rfl, rfl, _, _, rfl, rfl, d, 0, 999, rfl, ?_⟩
          have e : accS r a b c d 4 = accS r a b c d 3 ++ bd (isWi d 0 999) 3 := by first | rfl | exact (List.nil_append _).symm
          cases cw : isWi d 0 999 with
          | true => exact ifF rfl ⟨by rw [e, cw]; unfold bd; rw [if_pos rfl, List.append_nil], rfl⟩
          | false => exact ifT rfl ⟨lt_line (Nat.le_trans (accS_len r a b c d 3) (by decide)), by rw [e, cw]; unfold bd; rw [if_neg Bool.false_ne_true]; rfl, rfl⟩
      · rintro acc cs' ⟨rfl, rfl⟩
        refine ⟨le_line (show 0 ≤ 100000 by decide), b_to ?_ h'⟩
        show (accS r a b c d 4).isEmpty = _
        unfold accS bd
        cases isWi a 0 (r.p - 1) <;> cases isWi b 0 1000 <;> cases isWi c 0 99 <;> cases isWi d 0 999 <;> rfl
    · rw [notS hl] at h
      exact ⟨true, rfl, _, rfl, rfl, rfl, ifNF (lenNe (by omega)) h⟩

/-! _law_rules -/
def f_law_rules : FD := fun ss cs _ Q => ∃ (j B : Nat) (r : Rl), ss = [.c j, .d r.d] ∧ r.Ok ∧ PotAt cs j B ∧ B ≤ 2 ^ 37 ∧ ∀ (x : PyData) cs', Th "share" x → Chg j cs cs' → PotAt cs' j (B + 80) → Q x cs'

theorem sc_law_rules : FnScope ["pot", "rule"] ["pot", "rule"] (defScope s_law_rules) := ⟨rfl, rfl, rfl, by decide +kernel, rfl, by decide +kernel, by decide +kernel⟩
theorem ok_law_rules (T : Txt K mg) (G_law_take : Cal P w K mg base 1 "_law_take" ["pot", "many"] f_law_take) (G_law_spoilt : Cal P w K mg base 3 "_law_spoilt" ["pot", "thing"] f_law_spoilt) (G_law_late_rule : Cal P w K mg base 2 "_law_late_rule" ["pot"] f_law_late_rule) (G_law_odd : Cal P w K mg base 2 "_law_odd" ["pot"] f_law_odd) {a : Addr} {fd : FuncData} (F : FunD K "_law_rules" "_law_rules" (defArgs s_law_rules) (defBody s_law_rules) (defScope s_law_rules) [] [] a fd) (hb : Binds K fd ["pot", "rule"] []) (hm : mg "_law_rules" = some (.ref a)) : Cal P w K mg base 4 "_law_rules" ["pot", "rule"] f_law_rules := by
  refine cal_of F sc_law_rules hb hm (fun ss cs Ed Q h => ?_) (fun cdv A outer s H E hr => (q_sone (q_ret (q_ix (q_lst (q_consV 1 (pv 1) (q_consV 1 (pv 1) (q_consV 1 (pv 1) (q_cons (q_call G_law_spoilt (hr.mono (by decide)) (passes_call (takes_of rfl rfl rfl rfl) fun _ _ _ _ h => h) (q_consV 0 (pv 0) (q_consV 1 (pv 1) q_nil))) (q_cons (q_call G_law_late_rule (hr.mono (by decide)) (passes_call (takes_of rfl rfl rfl rfl) fun _ _ _ _ h => h) (q_consV 0 (pv 0) q_nil)) (q_cons (q_call G_law_odd (hr.mono (by decide)) (passes_call (takes_of rfl rfl rfl rfl) fun _ _ _ _ h => h) (q_consV 0 (pv 0) q_nil)) q_nil))))))) (q_call G_law_take (hr.mono (by decide)) (passes_call (takes_of rfl rfl rfl rfl) fun _ _ _ _ h => h) (q_consV 0 (pv 0) (q_cons q_int q_nil))))))) ?_
  · obtain ⟨_, _, _, rfl, _⟩ := h; rfl
  intro ss cs Ed Qd h
  obtain ⟨j, B, r, rfl, hr, hp0, hB, h⟩ := h
  refine ⟨j, _, _, rfl, ⟨by show 1 ≤ 5; decide, by show 5 ≤ 5; decide⟩, Rl.th hr, hp0, by omega, fun s cs1 hs hc1 hp1 => ?_⟩
  refine ⟨j, _, rfl, hp1, by omega, fun q cs2 hq hc2 hp2 => ?_⟩
  refine ⟨j, _, rfl, hp2, by omega, fun o cs3 ho1 ho2 hc3 hp3 => ?_⟩
  refine ⟨le_line (show 6 ≤ 100000 by decide), j, _, _, rfl, hp3, by omega, ⟨by decide, by decide⟩, fun r4 cs4 hr4 hc4 hp4 => ?_⟩
  obtain ⟨x, ax, mx⟩ := at_any2 (ds := [r.d, r.d, r.d, s, q.d, o]) (i := r4) hr4.1 (by show r4 < 6; exact hr4.2)
  have hel := Rl.th hr
  refine ⟨x, ax, h x _ ?_ (((hc1.trans hc2).trans hc3).trans hc4) (hp4.mono (by omega))⟩
  rcases List.mem_cons.mp mx with rfl | m
  · exact Th.of hel
  rcases List.mem_cons.mp m with rfl | m
  · exact Th.of hel
  rcases List.mem_cons.mp m with rfl | m
  · exact Th.of hel
  rcases List.mem_cons.mp m with rfl | m
  · exact fun es e y hy => hs es e y hy
  rcases List.mem_cons.mp m with rfl | m
  · exact Th.of (Lr.th hq)
  rw [List.mem_singleton.mp m]
  exact ho2

/-! _law_memories -/
def f_law_memories : FD := fun ss cs _ Q => ∃ (j B : Nat) (r : Rl), ss = [.c j, .d r.d] ∧ r.Ok ∧ PotAt cs j B ∧ B ≤ 2 ^ 37 ∧ ∀ (y : PyData) cs', Chg j cs cs' → PotAt cs' j (B + 200) → Q y cs'

theorem sc_law_memories : FnScope ["pot", "rule", "some"] ["pot", "rule"] (defScope s_law_memories) := ⟨rfl, rfl, rfl, by decide +kernel, rfl, by decide +kernel, by decide +kernel⟩
theorem ok_law_memories (T : Txt K mg) (G_law_share_memory : Cal P w K mg base 2 "_law_share_memory" ["pot", "rule"] f_law_share_memory) (G_law_spoilt : Cal P w K mg base 3 "_law_spoilt" ["pot", "thing"] f_law_spoilt) (G_law_take : Cal P w K mg base 1 "_law_take" ["pot", "many"] f_law_take) (G_law_share_rule : Cal P w K mg base 2 "_law_share_rule" ["pot"] f_law_share_rule) (G_law_odd : Cal P w K mg base 2 "_law_odd" ["pot"] f_law_odd) {a : Addr} {fd : FuncData} (F : FunD K "_law_memories" "_law_memories" (defArgs s_law_memories) (defBody s_law_memories) (defScope s_law_memories) [] [] a fd) (hb : Binds K fd ["pot", "rule"] []) (hm : mg "_law_memories" = some (.ref a)) : Cal P w K mg base 4 "_law_memories" ["pot", "rule"] f_law_memories := by
  refine cal_of F sc_law_memories hb hm (fun ss cs Ed Q h => ?_) (fun cdv A outer s H E hr => (q_scons (q_new 2 sc_law_memories.nd (q_nlst (q_cons (q_call G_law_share_memory (hr.mono (by decide)) (passes_call (takes_of rfl rfl rfl rfl) fun _ _ _ _ h => h) (q_consV 0 (pv 0) (q_consV 1 (pv 1) q_nil))) (q_cons (q_call G_law_share_memory (hr.mono (by decide)) (passes_call (takes_of rfl rfl rfl rfl) fun _ _ _ _ h => h) (q_consV 0 (pv 0) (q_consV 1 (pv 1) q_nil))) (q_cons (q_call G_law_share_memory (hr.mono (by decide)) (passes_call (takes_of rfl rfl rfl rfl) fun _ _ _ _ h => h) (q_consV 0 (pv 0) (q_cons (q_call G_law_share_rule (hr.mono (by decide)) (passes_call (takes_of rfl rfl rfl rfl) fun _ _ _ _ h => h) (q_consV 0 (pv 0) q_nil)) q_nil))) q_nil)))))
      (q_scons (q_app 2 (pv 2) (q_call G_law_spoilt (hr.mono (by decide)) (passes_call (takes_of rfl rfl rfl rfl) fun _ _ _ _ h => h) (q_consV 0 (pv 0) (q_cons (q_ixV 2 (pv 2) q_int) q_nil))))
      (q_sone (q_ret (q_ix (q_ofN (q_catO 2 (pv 2) (q_lst (q_cons (q_call G_law_odd (hr.mono (by decide)) (passes_call (takes_of rfl rfl rfl rfl) fun _ _ _ _ h => h) (q_consV 0 (pv 0) q_nil)) (q_cons (q_tup (q_cons q_non (q_cons q_non (q_cons q_int q_nil)))) q_nil))))) (q_call G_law_take (hr.mono (by decide)) (passes_call (takes_of rfl rfl rfl rfl) fun _ _ _ _ h => h) (q_consV 0 (pv 0) (q_cons q_int q_nil))))))))) ?_
  · obtain ⟨_, _, _, rfl, _⟩ := h; rfl
  intro ss cs Ed Qd h
  obtain ⟨j, B, r, rfl, hr, hp0, hB, h⟩ := h
  refine ⟨j, _, r, rfl, hr, hp0, by omega, fun d1 cs1 l1 e1 hc1 hp1 => ?_⟩
  refine ⟨j, _, r, rfl, hr, hp1, by omega, fun d2 cs2 l2 e2 hc2 hp2 => ?_⟩
  refine ⟨j, _, rfl, hp2, by omega, fun q cs3 hq hc3 hp3 => ?_⟩
  refine ⟨j, _, q, rfl, hq, hp3, by omega, fun d3 cs4 l3 e3 hc4 hp4 => ?_⟩
  refine ⟨le_line (show 3 ≤ 100000 by decide), ?_⟩
  refine ⟨rfl, rfl, _, _, rfl, rfl, 1 + j, _, _, rfl, ⟨by omega, by omega⟩, e1, hp4.up, by omega, fun s1 cs5 _ hc5 hp5 => ?_⟩
  obtain ⟨cs6, rfl, hc6⟩ := Chg.cons hc5
  refine ⟨_, rfl, lt_line (show 3 ≤ 100000 by decide), ?_⟩
  refine ⟨1 + j, _, rfl, hp5.cons.up, by omega, fun o cs7 _ _ hc7 hp7 => ?_⟩
  obtain ⟨cs8, rfl, hc8⟩ := Chg.cons hc7
  refine ⟨le_line (show 3 ≤ 100000 by decide), le_line (show 2 ≤ 100000 by decide), _, rfl, le_line (show 6 ≤ 100000 by decide), ?_⟩
  refine ⟨1 + j, _, _, rfl, hp7, by omega, ⟨by decide, by decide⟩, fun r9 cs9 hr9 hc9 hp9 => ?_⟩
  obtain ⟨cs10, rfl, hc10⟩ := Chg.cons hc9
  obtain ⟨x, ax, mx⟩ := at_any2 (ds := ([.tuple d1, .tuple d2, .tuple d3] ++ [s1]) ++ [o, .tuple [.none, .none, .int 0]]) (i := r9) hr9.1 (by show r9 < 6; exact hr9.2)
  exact ⟨x, ax, h x _ ((((((hc1.trans hc2).trans hc3).trans hc4).trans hc6).trans hc8).trans hc10) (hp9.cons.mono (by omega))⟩

/-! _law_met -/
def f_law_met : FM := MetX
theorem sc_law_met : FnScope ["call", "caught", "e"] ["call"] (defScope s_law_met) := ⟨rfl, rfl, rfl, by decide +kernel, rfl, by decide +kernel, by decide +kernel⟩
theorem ok_law_met (T : Txt K mg) (G_law_word : CalT P w K mg base 1 "_law_word" ["caught"] f_law_word) {a : Addr} {fd : FuncData} (F : FunD K "_law_met" "_law_met" (defArgs s_law_met) (defBody s_law_met) (defScope s_law_met) [] [] a fd) (hb : Binds K fd ["call"] []) (hm : mg "_law_met" = some (.ref a)) : CalL P w K mg base 8 "_law_met" f_law_met := by
  refine calL_of F sc_law_met hb hm rfl (by first | exact Or.inl rfl | exact Or.inr (Or.inl rfl)) (by decide) (by decide) (fun cdv A outer s H Pr B hr act => (q_scons (q_set 1 sc_law_met.nd q_non)
      (q_scons (q_try 2 DsX sc_law_met.nd (fun W pn xe tk => (w_one (w_expr (act W pn xe _ _ tk)))) (fun a pn => (q_sone (q_mvX 1 2 sc_law_met.nd (pv 2)))) LamX.takes0 (T.er.x "LineError" (by decide +kernel)) T.er.l)
      (q_sone (q_ret (q_if (q_isNX 1 (pv 1)) q_str (q_callT G_law_word (L2H.roomH_of (hr.mono (by decide))) passes_no (q_consV 1 (pv 1) q_nil)))))))) ?_
  intro Pr B cs Qd h
  refine ⟨rfl, _, _, h, fun nm cs1 q => ?_, fun v cs1 q => q⟩
  obtain ⟨q1, q2⟩ := q
  exact ⟨q1, nm, rfl, nm, rfl, q1, q2⟩

/-! _law_right -/
def f_law_right : FD := fun ss cs _ Q => ∃ (j B : Nat) (r : Rl), ss = [.c j, .d r.d] ∧ r.Ok ∧ PotAt cs j B ∧ B ≤ 2 ^ 36 ∧ (∃ (i : Nat), i ≠ j ∧ cs[i]? = some [mgc "_law_right" "_law_right.<locals>.<lambda>"]) ∧ ∀ cs', Chg j cs cs' → PotAt cs' j (B + 400) → Q (.bool true) cs'

theorem sc_law_right : FnScope ["pot", "rule", "odd", "ahead", "behind", "last", "more", "told", "many", "memory", "thing", "wait"] ["pot", "rule"] (defScope s_law_right) := ⟨rfl, rfl, rfl, by decide +kernel, rfl, by decide +kernel, by decide +kernel⟩
theorem ok_law_right (T : Txt K mg) (G_law_odd : Cal P w K mg base 2 "_law_odd" ["pot"] f_law_odd) (G_law_whole : Cal P w K mg base 1 "_law_whole" ["thing", "least", "most"] f_law_whole) (G_law_met : CalL P w K mg base 8 "_law_met" f_law_met) (G_law_rules : Cal P w K mg base 4 "_law_rules" ["pot", "rule"] f_law_rules) (G_law_memories : Cal P w K mg base 4 "_law_memories" ["pot", "rule"] f_law_memories) (G_law_take : Cal P w K mg base 1 "_law_take" ["pot", "many"] f_law_take) (G_law_is_share : CalG P w K mg base 2 "_law_is_share" ["thing"] f_law_is_share) (G_law_is_share_memory : Cal P w K mg base 2 "_law_is_share_memory" ["rule", "thing"] f_law_is_share_memory) (G_share_come : Cal P w K mg base 7 "share_come" ["rule", "memory"] f_share_come) (G_share_renewed : Cal P w K mg base 7 "share_renewed" ["rule", "memory", "wait"] f_share_renewed) (G_share_struck : Cal P w K mg base 7 "share_struck" ["rule", "memory", "many"] f_share_struck) (G_share_first : Cal P w K mg base 5 "share_first" ["rule"] f_share_first) (G_share_passed : Cal P w K mg base 7 "share_passed" ["rule", "memory"] f_share_passed) {a : Addr} {fd : FuncData} (F : FunD K "_law_right" "_law_right" (defArgs s_law_right) (defBody s_law_right) (defScope s_law_right) [] [] a fd) (hb : Binds K fd ["pot", "rule"] []) (hm : mg "_law_right" = some (.ref a)) (hga : a = He.ga K "_law_right") (TB : LamX.TabB base mg (He.codeOf K ("_law_right", none)) (tabA K "_law_right")) : CalG P w K mg base 10 "_law_right" ["pot", "rule"] f_law_right := by
  refine calGC_of F hga sc_law_right hb hm (fun ss cs Ed Q h => ?_) (fun cdv A outer s H E hcd hr gd => (q_scons (q_unp [10, 9] rfl (pgs_cons (pg_name (i := 10) sc_law_right.nd rfl (by first | exact Or.inl rfl | exact Or.inr rfl)) (pgs_cons (pg_name (i := 9) sc_law_right.nd rfl (by first | exact Or.inl rfl | exact Or.inr rfl)) pgs_nil)) (q_tup (q_cons (q_call G_law_rules (hr.mono (by decide)) (passes_call (takes_of rfl rfl rfl rfl) fun _ _ _ _ h => h) (q_consV 0 (pv 0) (q_consV 1 (pv 1) q_nil))) (q_cons (q_call G_law_memories (hr.mono (by decide)) (passes_call (takes_of rfl rfl rfl rfl) fun _ _ _ _ h => h) (q_consV 0 (pv 0) (q_consV 1 (pv 1) q_nil))) q_nil))))
      (q_scons (q_set 11 sc_law_right.nd (q_ix (q_lst (q_cons (q_call G_law_take (hr.mono (by decide)) (passes_call (takes_of rfl rfl rfl rfl) fun _ _ _ _ h => h) (q_consV 0 (pv 0) (q_cons (q_bin op_plus sr_plus (q_bin op_powW sr_powW q_int q_int) q_int) q_nil))) (q_cons q_int (q_cons (q_bin op_powW sr_powW q_int q_int) (q_cons (q_bin op_plus sr_plus (q_bin op_powW sr_powW q_int q_int) q_int) (q_cons (q_neg q_int) (q_cons (q_call G_law_odd (hr.mono (by decide)) (passes_call (takes_of rfl rfl rfl rfl) fun _ _ _ _ h => h) (q_consV 0 (pv 0) q_nil)) q_nil))))))) (q_call G_law_take (hr.mono (by decide)) (passes_call (takes_of rfl rfl rfl rfl) fun _ _ _ _ h => h) (q_consV 0 (pv 0) (q_cons q_int q_nil)))))
      (q_scons (q_set 2 sc_law_right.nd (q_call G_law_odd (hr.mono (by decide)) (passes_call (takes_of rfl rfl rfl rfl) fun _ _ _ _ h => h) (q_consV 0 (pv 0) q_nil)))
      (q_scons (q_ifS (q_tv (q_call G_law_whole (hr.mono (by decide)) (passes_call (takes_of rfl rfl rfl rfl) fun _ _ _ _ h => h) (q_consV 2 (pv 2) (q_cons q_int (q_cons q_int q_nil)))))
      (q_sone (q_set 2 sc_law_right.nd q_non))
      q_snil)
      (q_scons (q_set 8 sc_law_right.nd (q_ix (q_lst (q_cons (q_call G_law_take (hr.mono (by decide)) (passes_call (takes_of rfl rfl rfl rfl) fun _ _ _ _ h => h) (q_consV 0 (pv 0) (q_cons q_int q_nil))) (q_cons q_int (q_cons q_int (q_cons q_int (q_cons (q_neg q_int) (q_consV 2 (pv 2) q_nil))))))) (q_call G_law_take (hr.mono (by decide)) (passes_call (takes_of rfl rfl rfl rfl) fun _ _ _ _ h => h) (q_consV 0 (pv 0) (q_cons q_int q_nil)))))
      (q_scons (q_set 3 sc_law_right.nd q_str)
      (q_scons (q_ifS (q_not (q_tv (q_callG G_law_is_share gd (hr.mono (by decide)) (passes_call (takes_of rfl rfl rfl rfl) fun _ _ _ _ h => h) (q_consV 10 (pv 10) q_nil))))
      (q_sone (q_set 3 sc_law_right.nd q_str))
      q_snil)
      (q_scons (q_set 4 sc_law_right.nd (q_var 3))
      (q_scons (q_ifS (q_w (q_and (q_tcmp (op_eqA hr.units) sr_eqA (q_var 3) q_str) (q_and1 (q_not (q_tv (q_call G_law_is_share_memory (hr.mono (by decide)) (passes_call (takes_of rfl rfl rfl rfl) fun _ _ _ _ h => h) (q_consV 10 (pv 10) (q_consV 9 (pv 9) q_nil))))))))
      (q_sone (q_set 4 sc_law_right.nd q_str))
      q_snil)
      (q_scons (q_par2 (i := 5) (j := 6) rfl sc_law_right.nd (q_consV 4 (pv 4) (q_consV 4 (pv 4) q_nil)))
      (q_scons (q_ifS (q_w (q_and (q_tcmp (op_eqA hr.units) sr_eqA (q_var 4) q_str) (q_and1 (q_not (q_tv (q_call G_law_whole (hr.mono (by decide)) (passes_call (takes_of rfl rfl rfl rfl) fun _ _ _ _ h => h) (q_consV 11 (pv 11) (q_cons q_int (q_cons (q_bin op_powW sr_powW q_int q_int) q_nil)))))))))
      (q_sone (q_set 5 sc_law_right.nd q_str))
      q_snil)
      (q_scons (q_ifS (q_w (q_and (q_tcmp (op_eqA hr.units) sr_eqA (q_var 4) q_str) (q_and1 (q_not (q_tv (q_call G_law_whole (hr.mono (by decide)) (passes_call (takes_of rfl rfl rfl rfl) fun _ _ _ _ h => h) (q_consV 8 (pv 8) (q_cons q_int (q_cons q_int q_nil)))))))))
      (q_sone (q_set 6 sc_law_right.nd q_str))
      q_snil)
      (q_scons (q_ifS (q_tcmp (op_neD hr.units) sr_ne (q_lam (nm := "_law_right") (q := "_law_right.<locals>.<lambda>") G_law_met TB hcd (hr.mono (by decide)) (by show ((("_law_right" : Str) ++ ".<locals>.") ++ "<lambda>") = _; decide +kernel) (fun A outer s H E f c2 hr => (q_call G_share_renewed (hr.mono (by decide)) (passes_call (takes_of rfl rfl rfl rfl) fun _ _ _ _ h => h) (q_consV 10 (pv 10) (q_consV 9 (pv 9) (q_consV 11 (pv 11) q_nil))))) (LamX.lamS_by (show LamX.lamSB (defScope s_law_right) _ = true by decide +kernel))) (q_var 5))
      (q_sone (q_ret q_bl))
      q_snil)
      (q_scons (q_ifS (q_tcmp (op_neD hr.units) sr_ne (q_lam (nm := "_law_right") (q := "_law_right.<locals>.<lambda>") G_law_met TB hcd (hr.mono (by decide)) (by show ((("_law_right" : Str) ++ ".<locals>.") ++ "<lambda>") = _; decide +kernel) (fun A outer s H E f c2 hr => (q_call G_share_struck (hr.mono (by decide)) (passes_call (takes_of rfl rfl rfl rfl) fun _ _ _ _ h => h) (q_consV 10 (pv 10) (q_consV 9 (pv 9) (q_consV 8 (pv 8) q_nil))))) (LamX.lamS_by (show LamX.lamSB (defScope s_law_right) _ = true by decide +kernel))) (q_var 6))
      (q_sone (q_ret q_bl))
      q_snil)
      (q_scons (q_ifS (q_tcmp (op_neD hr.units) sr_ne (q_lam (nm := "_law_right") (q := "_law_right.<locals>.<lambda>") G_law_met TB hcd (hr.mono (by decide)) (by show ((("_law_right" : Str) ++ ".<locals>.") ++ "<lambda>") = _; decide +kernel) (fun A outer s H E f c2 hr => (q_call G_share_first (hr.mono (by decide)) (passes_call (takes_of rfl rfl rfl rfl) fun _ _ _ _ h => h) (q_consV 10 (pv 10) q_nil))) (LamX.lamS_by (show LamX.lamSB (defScope s_law_right) _ = true by decide +kernel))) (q_var 3))
      (q_sone (q_ret q_bl))
      q_snil)
      (q_scons (q_set 7 sc_law_right.nd (q_lam (nm := "_law_right") (q := "_law_right.<locals>.<lambda>") G_law_met TB hcd (hr.mono (by decide)) (by show ((("_law_right" : Str) ++ ".<locals>.") ++ "<lambda>") = _; decide +kernel) (fun A outer s H E f c2 hr => (q_call G_share_come (hr.mono (by decide)) (passes_call (takes_of rfl rfl rfl rfl) fun _ _ _ _ h => h) (q_consV 10 (pv 10) (q_consV 9 (pv 9) q_nil)))) (LamX.lamS_by (show LamX.lamSB (defScope s_law_right) _ = true by decide +kernel))))
      (q_sone (q_ret (q_vand (q_cmp (op_eqD hr.units) sr_eq (q_var 7) (q_var 4)) (q_v1 (q_cmp (op_eqD hr.units) sr_eq (q_lam (nm := "_law_right") (q := "_law_right.<locals>.<lambda>") G_law_met TB hcd (hr.mono (by decide)) (by show ((("_law_right" : Str) ++ ".<locals>.") ++ "<lambda>") = _; decide +kernel) (fun A outer s H E f c2 hr => (q_call G_share_passed (hr.mono (by decide)) (passes_call (takes_of rfl rfl rfl rfl) fun _ _ _ _ h => h) (q_consV 10 (pv 10) (q_consV 9 (pv 9) q_nil)))) (LamX.lamS_by (show LamX.lamSB (defScope s_law_right) _ = true by decide +kernel))) (q_var 4))))))))))))))))))))))) ?_
  · obtain ⟨_, _, _, rfl, _⟩ := h; rfl
  intro ss cs Ed Qd h
  obtain ⟨j, B, r, rfl, hr, hp0, hB, ⟨i, hi, ht⟩, h⟩ := h
  have l6 := le_line (show 6 ≤ 100000 by decide)
  have l2 := le_line (show 2 ≤ 100000 by decide)
  refine d_mid (fun ρ' cs' => ∃ x y, ρ' = [.c j, .d r.d, .no, .no, .no, .no, .no, .no, .no, .d y, .d x, .no] ∧ Th "share" x ∧ Chg j cs cs' ∧ PotAt cs' j (B + 280)) (fun D1 _ _ hN => ?_) ?_
  · refine ⟨j, B, r, rfl, hr, hp0, by omega, fun x cs1 hx hc1 hp1 => ?_⟩
    refine ⟨j, _, r, rfl, hr, hp1, by omega, fun y cs2 hc2 hp2 => ?_⟩
    exact ⟨l2, _, rfl, hN _ _ ⟨x, y, rfl, hx, hc1.trans hc2, hp2.mono (by omega)⟩⟩
  rintro ρ cs1 ⟨x, y, rfl, hx, hc1, hp1⟩
  dsimp only [DN.push, dNext]
  refine d_mid (fun ρ' cs' => ∃ z, ρ' = [.c j, .d r.d, .no, .no, .no, .no, .no, .no, .no, .d y, .d x, .d z] ∧ Chg j cs cs' ∧ PotAt cs' j (B + 310)) (fun D1 _ _ hN => ?_) ?_
  · refine ⟨⟨by decide, by decide +kernel⟩, j, _, _, rfl, hp1, by omega, ⟨by decide +kernel, by decide +kernel⟩, fun r3 cs3 _ hc3 hp3 => ?_⟩
    refine ⟨⟨by decide, by decide +kernel⟩, ⟨by decide, by decide +kernel⟩, j, _, rfl, hp3, by omega, fun o cs4 _ _ hc4 hp4 => ?_⟩
    refine ⟨l6, j, _, _, rfl, hp4, by omega, ⟨by decide, by decide⟩, fun r5 cs5 hr5 hc5 hp5 => ?_⟩
    obtain ⟨z, az, -⟩ := at_any2 (ds := [.int r3, .int 0, .int (10 ^ (6 : Int).toNat), .int (10 ^ (6 : Int).toNat + 1), .int (-1), o]) (i := r5) hr5.1 (by show r5 < 6; exact hr5.2)
    exact ⟨z, az, hN _ _ ⟨z, rfl, ((hc1.trans hc3).trans hc4).trans hc5, hp5.mono (by omega)⟩⟩
  rintro ρ cs2 ⟨z, rfl, hc2, hp2⟩
  dsimp only [DN.push, dNext]
  refine d_mid (fun ρ' cs' => ∃ o, ρ' = [.c j, .d r.d, .d o, .no, .no, .no, .no, .no, .no, .d y, .d x, .d z] ∧ Chg j cs cs' ∧ PotAt cs' j (B + 320)) (fun D1 _ _ hN => ?_) ?_
  · refine ⟨j, _, rfl, hp2, by omega, fun o cs4 _ _ hc4 hp4 => ?_⟩
    exact hN _ _ ⟨o, rfl, hc2.trans hc4, hp4.mono (by omega)⟩
  rintro ρ cs2b ⟨o0, rfl, hc2b, hp2b⟩
  dsimp only [DN.push, dNext]
  refine d_mid (fun ρ' cs' => ∃ o, ρ' = [.c j, .d r.d, .d o, .no, .no, .no, .no, .no, .no, .d y, .d x, .d z] ∧ cs' = cs2b) (fun D1 _ _ hN => ?_) ?_
  · refine if_mid (isWi o0 301 9999) (fun Qb q => ⟨o0, 301, 9999, rfl, q⟩) ?_
    split
    · exact hN _ _ ⟨.none, rfl, rfl⟩
    · exact hN _ _ ⟨o0, rfl, rfl⟩
  rintro ρ cs2c ⟨o, rfl, rfl⟩
  dsimp only [DN.push, dNext]
  refine d_mid (fun ρ' cs' => ∃ m, ρ' = [.c j, .d r.d, .d o, .no, .no, .no, .no, .no, .d m, .d y, .d x, .d z] ∧ Chg j cs cs' ∧ PotAt cs' j (B + 340)) (fun D1 _ _ hN => ?_) ?_
  · refine ⟨j, _, _, rfl, hp2b, by omega, ⟨by decide, by decide⟩, fun r3 cs3 _ hc3 hp3 => ?_⟩
    refine ⟨l6, j, _, _, rfl, hp3, by omega, ⟨by decide, by decide⟩, fun r5 cs5 hr5 hc5 hp5 => ?_⟩
    obtain ⟨m, am, -⟩ := at_any2 (ds := [.int r3, .int 0, .int 300, .int 10000, .int (-1), o]) (i := r5) hr5.1 (by show r5 < 6; exact hr5.2)
    exact ⟨m, am, hN _ _ ⟨m, rfl, (hc2b.trans hc3).trans hc5, hp5.mono (by omega)⟩⟩
  rintro ρ cs3 ⟨m, rfl, hc3, hp3⟩
  have tb : cs3[i]? = some [mgc "_law_right" "_law_right.<locals>.<lambda>"] := (hc3.2 i hi).trans ht
  have h := h _ hc3 (hp3.mono (by omega))
  clear hc1 hp1 hc2 hp2 hc3 hp3 hc2b hp2b ht hi hp0
  dsimp only [DN.push, dNext]
  refine d_mid (fun ρ' cs' => ρ' = [.c j, .d r.d, .d o, .d (.str "told"), .no, .no, .no, .no, .d m, .d y, .d x, .d z] ∧ cs' = cs3) (fun D1 _ _ hN => hN _ _ ⟨rfl, rfl⟩) ?_
  rintro ρ cs4 ⟨rfl, rfl⟩
  dsimp only [DN.push, dNext]
  refine d_mid (fun ρ' cs' => ρ' = [.c j, .d r.d, .d o, .d (.str (aheadW x)), .no, .no, .no, .no, .d m, .d y, .d x, .d z] ∧ cs' = cs4) (fun D1 _ _ hN => ?_) ?_
  · refine if_mid (!isShareD x) (fun Qb q => ⟨x, rfl, hx, q⟩) ?_
    cases e : isShareD x with
    | true => exact ifF rfl (hN _ _ ⟨by rw [aw_t e], rfl⟩)
    | false => exact ifT rfl (hN _ _ ⟨by rw [aw_r e]; rfl, rfl⟩)
  rintro ρ cs5 ⟨rfl, rfl⟩
  dsimp only [DN.push, dNext]
  refine d_mid (fun ρ' cs' => ρ' = [.c j, .d r.d, .d o, .d (.str (aheadW x)), .d (.str (aheadW x)), .no, .no, .no, .d m, .d y, .d x, .d z] ∧ cs' = cs5) (fun D1 _ _ hN => hN _ _ ⟨rfl, rfl⟩) ?_
  rintro ρ cs6 ⟨rfl, rfl⟩
  dsimp only [DN.push, dNext]
  refine d_mid (fun ρ' cs' => ρ' = [.c j, .d r.d, .d o, .d (.str (aheadW x)), .d (.str (behindW x y)), .no, .no, .no, .d m, .d y, .d x, .d z] ∧ cs' = cs6) (fun D1 _ _ hN => ?_) ?_
  · cases e : isShareD x with
    | false => exact if_mid false (fun Qb q => dand_f (fun Q' k => ⟨rfl, q_to (by rw [aw_r e]; decide +kernel) k⟩) q) (ifF rfl (hN _ _ ⟨by rw [aw_r e, bw_r e], rfl⟩))
    | true =>
      obtain ⟨r', er, ho⟩ := isShare_inv e
      refine if_mid (!fitsX x y) (fun Qb q => dand_t (fun Q' k => ⟨rfl, q_tt (by rw [aw_t e]; decide +kernel) k⟩) ⟨r', y, by rw [er], by rw [er] at q; exact q⟩) ?_
      cases e2 : fitsX x y with
      | true => exact ifF rfl (hN _ _ ⟨by rw [aw_t e, bw_t e e2], rfl⟩)
      | false => exact ifT rfl (hN _ _ ⟨by rw [bw_m e e2]; rfl, rfl⟩)
  rintro ρ cs7 ⟨rfl, rfl⟩
  dsimp only [DN.push, dNext]
  refine d_mid (fun ρ' cs' => ρ' = [.c j, .d r.d, .d o, .d (.str (aheadW x)), .d (.str (behindW x y)), .d (.str (behindW x y)), .d (.str (behindW x y)), .no, .d m, .d y, .d x, .d z] ∧ cs' = cs7) (fun D1 _ _ hN => ⟨_, rfl, hN _ _ ⟨rfl, rfl⟩⟩) ?_
  rintro ρ cs8 ⟨rfl, rfl⟩
  dsimp only [DN.push, dNext]
  refine d_mid (fun ρ' cs' => ρ' = [.c j, .d r.d, .d o, .d (.str (aheadW x)), .d (.str (behindW x y)), .d (.str (wN (behindW x y) z 1000000)), .d (.str (behindW x y)), .no, .d m, .d y, .d x, .d z] ∧ cs' = cs8) (fun D1 _ _ hN => ?_) ?_
  · skip
    by_cases hw : behindW x y = "told"
    · refine if_mid (!isWi z 0 1000000) (fun Qb q => dand_t (fun Q' k => ⟨rfl, q_tt (by rw [hw]; decide +kernel) k⟩) ⟨⟨by decide, by decide +kernel⟩, z, 0, _, rfl, q⟩) ?_
      cases e : isWi z 0 1000000 with
      | true => exact ifF rfl (hN _ _ ⟨by rw [hw, wN_t e], rfl⟩)
      | false => exact ifT rfl (hN _ _ ⟨by rw [hw, wN_n e]; rfl, rfl⟩)
    · refine if_mid false (fun Qb q => dand_f (fun Q' k => ⟨rfl, q_to (by rw [eqv_str]; exact decide_eq_false hw) k⟩) q) (ifF rfl (hN _ _ ⟨by rw [wN_no (z := z) hw], rfl⟩))
  rintro ρ cs9 ⟨rfl, rfl⟩
  dsimp only [DN.push, dNext]
  refine d_mid (fun ρ' cs' => ρ' = [.c j, .d r.d, .d o, .d (.str (aheadW x)), .d (.str (behindW x y)), .d (.str (wN (behindW x y) z 1000000)), .d (.str (wN (behindW x y) m 9999)), .no, .d m, .d y, .d x, .d z] ∧ cs' = cs9) (fun D1 _ _ hN => ?_) ?_
  · skip
    by_cases hw : behindW x y = "told"
    · refine if_mid (!isWi m 0 9999) (fun Qb q => dand_t (fun Q' k => ⟨rfl, q_tt (by rw [hw]; decide +kernel) k⟩) ⟨m, 0, 9999, rfl, q⟩) ?_
      cases e : isWi m 0 9999 with
      | true => exact ifF rfl (hN _ _ ⟨by rw [hw, wN_t e], rfl⟩)
      | false => exact ifT rfl (hN _ _ ⟨by rw [hw, wN_n e]; rfl, rfl⟩)
    · refine if_mid false (fun Qb q => dand_f (fun Q' k => ⟨rfl, q_to (by rw [eqv_str]; exact decide_eq_false hw) k⟩) q) (ifF rfl (hN _ _ ⟨by rw [wN_no (z := m) hw], rfl⟩))
  rintro ρ cs10 ⟨rfl, rfl⟩
  dsimp only [DN.push, dNext]
  refine d_mid (fun ρ' cs' => ρ' = [.c j, .d r.d, .d o, .d (.str (aheadW x)), .d (.str (behindW x y)), .d (.str (wN (behindW x y) z 1000000)), .d (.str (wN (behindW x y) m 9999)), .no, .d m, .d y, .d x, .d z] ∧ cs' = cs10) (fun D1 _ _ hN => if_mid false (fun Qb q => ⟨⟨i, tb⟩, by_lk (fun Ed Q1 k => ⟨x, y, z, rfl, k⟩) ⟨wN_sh bw_sh, wN_sh bw_sh, q_to (by rw [eqv_str, decide_eq_true rfl]; rfl) q⟩⟩) (ifF rfl (hN _ _ ⟨rfl, rfl⟩))) ?_
  rintro ρ cs11 ⟨rfl, rfl⟩
  dsimp only [DN.push, dNext]
  refine d_mid (fun ρ' cs' => ρ' = [.c j, .d r.d, .d o, .d (.str (aheadW x)), .d (.str (behindW x y)), .d (.str (wN (behindW x y) z 1000000)), .d (.str (wN (behindW x y) m 9999)), .no, .d m, .d y, .d x, .d z] ∧ cs' = cs11) (fun D1 _ _ hN => if_mid false (fun Qb q => ⟨⟨i, tb⟩, by_lk (fun Ed Q1 k => ⟨x, y, m, rfl, k⟩) ⟨wN_sh bw_sh, wN_sh bw_sh, q_to (by rw [eqv_str, decide_eq_true rfl]; rfl) q⟩⟩) (ifF rfl (hN _ _ ⟨rfl, rfl⟩))) ?_
  rintro ρ cs12 ⟨rfl, rfl⟩
  dsimp only [DN.push, dNext]
  refine d_mid (fun ρ' cs' => ρ' = [.c j, .d r.d, .d o, .d (.str (aheadW x)), .d (.str (behindW x y)), .d (.str (wN (behindW x y) z 1000000)), .d (.str (wN (behindW x y) m 9999)), .no, .d m, .d y, .d x, .d z] ∧ cs' = cs12) (fun D1 _ _ hN => if_mid false (fun Qb q => ⟨⟨i, tb⟩, by_lf (fun Ed Q1 k1 k2 => ⟨x, rfl, k1, fun e => k2 e _⟩) ⟨aw_sh, aw_sh, q_to (by rw [eqv_str, decide_eq_true rfl]; rfl) q⟩⟩) (ifF rfl (hN _ _ ⟨rfl, rfl⟩))) ?_
  rintro ρ cs13 ⟨rfl, rfl⟩
  dsimp only [DN.push, dNext]
  refine d_mid (fun ρ' cs' => ρ' = [.c j, .d r.d, .d o, .d (.str (aheadW x)), .d (.str (behindW x y)), .d (.str (wN (behindW x y) z 1000000)), .d (.str (wN (behindW x y) m 9999)), .d (.str (behindW x y)), .d m, .d y, .d x, .d z] ∧ cs' = cs13) (fun D1 _ _ hN => ⟨⟨i, tb⟩, by_lp (fun Ed Q1 k => ⟨x, y, rfl, k⟩) (hN _ _ ⟨rfl, rfl⟩)⟩) ?_
  rintro ρ cs14 ⟨rfl, rfl⟩
  dsimp only [DN.push, dNext]
  show dVand _ _ _ _ _ _
  refine vand_t (fun Q' k => ⟨bw_sh, bw_sh, b_to (by rw [eqv_str, decide_eq_true rfl]) k⟩) ?_
  exact ⟨⟨i, tb⟩, by_lp (fun Ed Q1 k => ⟨x, y, rfl, k⟩) ⟨bw_sh, bw_sh, b_to (by rw [eqv_str, decide_eq_true rfl]) h⟩⟩

end
end Law

namespace Law
open PySem PySem.Spec PyProof.Rows L2 Kp

abbrev tb : List PyData := [mgc "_law_right" "_law_right.<locals>.<lambda>"]
theorem Chg.two {d e : List PyData} {cs' : CS} (h : Chg 0 [d, e] cs') : ∃ d', cs' = [d', e] := by
  obtain ⟨h1, h2⟩ := h
  match cs', h1, h2 with
  | [a, b], _, h2 => exact ⟨a, by rw [Option.some.inj (show some b = some e from h2 1 (by decide))]⟩
section
variable {P : Program} {w : World} {K : Frag} {mg : Str → Option Value} {base : Heap}
/-! law -/
def f_law : FD := fLawT "_law_right" "_law_right.<locals>.<lambda>" 63
theorem sc_law : FnScope ["script", "k", "pot", "turn"] ["script"] (defScope s_law) := ⟨rfl, rfl, rfl, by decide +kernel, rfl, by decide +kernel, by decide +kernel⟩
theorem ok_law (T : Txt K mg) (G_law_pot : CalN P w K mg base 1 "_law_pot" ["script", "k"] f_law_pot) (G_law_right : CalG P w K mg base 10 "_law_right" ["pot", "rule"] f_law_right) (G_law_share_rule : Cal P w K mg base 2 "_law_share_rule" ["pot"] f_law_share_rule) {a : Addr} {fd : FuncData} (F : FunD K "law" "law" (defArgs s_law) (defBody s_law) (defScope s_law) [] [] a fd) : FnG P w K mg base (L2.CX P w) 11 a fd ["script"] (spD K f_law) := by
  refine fnG_of F sc_law (fun ss cs Ed Q h => ?_) (fun cdv A outer s H E hr gd => (q_scons (q_for (passes_of rfl) rfl (qi_r1 T.f_range (q_cons (q_cb (call_max2 rfl) sc_max2 T.f_max (by decide +kernel) (q_cons q_int (q_cons (q_cb (call_min2 rfl) sc_min2 T.f_min (by decide +kernel) (q_cons q_int (q_cons (q_lenV 0 (pv 0) T.f_len) q_nil))) q_nil))) q_nil)) (qg_1 1 (pg_name (i := 1) sc_law.nd rfl (by first | exact Or.inl rfl | exact Or.inr rfl)))
      (q_scons (q_new 2 sc_law.nd (q_ncall G_law_pot (hr.mono (by decide)) (passes_call (takes_of rfl rfl rfl rfl) fun _ _ _ _ h => h) (q_consV 0 (pv 0) (q_consV 1 (pv 1) q_nil))))
      (q_sone (q_for (passes_of rfl) rfl (qi_r1 T.f_range (q_cons q_int q_nil)) (qg_1 3 (pg_name (i := 3) sc_law.nd rfl (by first | exact Or.inl rfl | exact Or.inr rfl)))
      (q_sone (q_ifS (q_not (q_tv (q_callG G_law_right gd (hr.mono (by decide)) (passes_call (takes_of rfl rfl rfl rfl) fun _ _ _ _ h => h) (q_consV 2 (pv 2) (q_cons (q_call G_law_share_rule (hr.mono (by decide)) (passes_call (takes_of rfl rfl rfl rfl) fun _ _ _ _ h => h) (q_consV 2 (pv 2) q_nil)) q_nil)))))
      (q_sone (q_ret q_bl))
      q_snil))))))
      (q_sone (q_ret q_bl)))) ?_
  · obtain ⟨_, _, rfl, _⟩ := h; rfl
  intro ss cs Ed Qd h
  obtain ⟨rfl, ns, rfl, hl, h⟩ := h
  have hmn : (ns.map PyData.int).length = ns.length := List.length_map _
  have hb : -(2 ^ 62) ≤ (if (if ((ns.map PyData.int).length : Int) < 10 then ((ns.map PyData.int).length : Int) else 10) > 1 then (if ((ns.map PyData.int).length : Int) < 10 then ((ns.map PyData.int).length : Int) else 10) else 1) ∧ (if (if ((ns.map PyData.int).length : Int) < 10 then ((ns.map PyData.int).length : Int) else 10) > 1 then (if ((ns.map PyData.int).length : Int) < 10 then ((ns.map PyData.int).length : Int) else 10) else 1) ≤ 10 := by
    split <;> split <;> omega
  refine ⟨_, rfl, hb.1, Int.lt_of_le_of_lt hb.2 (by decide), ?_⟩
  generalize (if (if ((ns.map PyData.int).length : Int) < 10 then ((ns.map PyData.int).length : Int) else 10) > 1 then (if ((ns.map PyData.int).length : Int) < 10 then ((ns.map PyData.int).length : Int) else 10) else 1) = lim at hb ⊢
  refine ⟨fun t ρ cs2 => ∃ (x1 x2 x3 : Sl), ρ = [.f (ns.map .int), x1, x2, x3] ∧ cs2 = [tb], ⟨_, _, _, rfl, rfl⟩, ?_, ?_⟩
  · rintro t ρ cs2 ht ⟨x1, x2, x3, rfl, rfl⟩
    have ht' : t < lim.toNat := ht
    refine ⟨_, rfl, .f (ns.map .int), ns, t, rfl, nofun, rfl, ⟨by omega, by omega⟩, fun ds hp => ?_⟩
    refine ⟨by decide, by decide, ?_⟩
    refine ⟨fun u ρ cs3 => ∃ (x3 : Sl) (d' : List PyData), ρ = [.f (ns.map .int), .d (.int t), .c 0, x3] ∧ cs3 = [d', tb] ∧ PotAt cs3 0 (500 * u), ⟨_, ds, rfl, rfl, ⟨ds, rfl, hp⟩⟩, ?_, ?_⟩
    · rintro u ρ cs3 hu ⟨x3, d0, rfl, rfl, hp0⟩
      have hu' : u < 10 := hu
      refine ⟨_, rfl, ?_⟩
      refine ⟨0, _, rfl, hp0, by omega, fun r cs4 hr hc4 hp4 => ?_⟩
      obtain ⟨d4, rfl⟩ := hc4.two
      refine ⟨0, _, r, rfl, hr, hp4, by omega, ⟨1, by decide, rfl⟩, fun cs5 hc5 hp5 => ?_⟩
      obtain ⟨d5, rfl⟩ := hc5.two
      exact ifF rfl ⟨_, _, rfl, rfl, hp5.mono (by omega)⟩
    · rintro ρ cs3 ⟨x3, d0, rfl, rfl, hp0⟩
      exact ⟨_, _, _, rfl, rfl⟩
  · rintro ρ cs2 ⟨x1, x2, x3, rfl, rfl⟩
    exact h _

end
end Law

namespace Law
open PySem PySem.Spec PyProof.Rows L2 Kp
theorem facts {P : Program} {w : World} {K : Frag} {h : Heap} {mg : Str → Option Value} {f : Addr} (X : K.In h) (G : h.Ns mainGlobals mg) (hfa : mg ("law" : Str) = some (.ref f)) (c : Kp.saysL fa fn bs DsX RsX ClX tf h K) :
    ∃ fd : FuncData, (∀ (s : Shared) (v : Value), BindsTo s fd ⟨[v], []⟩ [("script", v)]) ∧ ∀ base : Heap, LamX.TabB base mg (He.codeOf K ("_law_right", none)) (tabA K "_law_right") → FnG P w K mg base (L2.CX P w) 11 f fd ["script"] (spD K (fLawT "_law_right" "_law_right.<locals>.<lambda>" 63)) := by
  obtain ⟨fd_is_whole, F_is_whole⟩ := c.1.1.1.def_ 0 (d := d_is_whole) rfl
  have b_is_whole : Binds K fd_is_whole ["thing"] [] := FunD.bindsN F_is_whole fun _ _ _ _ _ _ us hl => match us, hl with | [_], _ => rfl
  obtain ⟨fd_renew_share, F_renew_share⟩ := c.1.1.1.def_ 1 (d := d_renew_share) rfl
  have b_renew_share : Binds K fd_renew_share ["rule", "memory", "wait"] [] := FunD.bindsN F_renew_share fun _ _ _ _ _ _ us hl => match us, hl with | [_, _, _], _ => rfl
  obtain ⟨fd_come_share, F_come_share⟩ := c.1.1.1.def_ 2 (d := d_come_share) rfl
  have b_come_share : Binds K fd_come_share ["memory"] [] := FunD.bindsN F_come_share fun _ _ _ _ _ _ us hl => match us, hl with | [_], _ => rfl
  obtain ⟨fd_pass_share, F_pass_share⟩ := c.1.1.1.def_ 3 (d := d_pass_share) rfl
  have b_pass_share : Binds K fd_pass_share ["rule", "memory"] [] := FunD.bindsN F_pass_share fun _ _ _ _ _ _ us hl => match us, hl with | [_, _], _ => rfl
  obtain ⟨fd_law_pot, F_law_pot⟩ := c.1.1.1.def_ 4 (d := d_law_pot) rfl
  have b_law_pot : Binds K fd_law_pot ["script", "k"] [] := FunD.bindsN F_law_pot fun _ _ _ _ _ _ us hl => match us, hl with | [_, _], _ => rfl
  obtain ⟨fd_law_take, F_law_take⟩ := c.1.1.1.def_ 5 (d := d_law_take) rfl
  have b_law_take : Binds K fd_law_take ["pot", "many"] [] := FunD.bindsN F_law_take fun _ _ _ _ _ _ us hl => match us, hl with | [_, _], _ => rfl
  obtain ⟨fd_law_whole, F_law_whole⟩ := c.1.1.1.def_ 6 (d := d_law_whole) rfl
  have b_law_whole : Binds K fd_law_whole ["thing", "least", "most"] [] := FunD.bindsN F_law_whole fun _ _ _ _ _ _ us hl => match us, hl with | [_, _, _], _ => rfl
  obtain ⟨fd_law_word, F_law_word⟩ := c.1.1.1.def_ 7 (d := d_law_word) rfl
  have b_law_word : Binds K fd_law_word ["caught"] [] := FunD.bindsN F_law_word fun _ _ _ _ _ _ us hl => match us, hl with | [_], _ => rfl
  obtain ⟨fd_is_within, F_is_within⟩ := c.1.1.1.def_ 8 (d := d_is_within) rfl
  have b_is_within : Binds K fd_is_within ["thing", "low", "high"] [] := FunD.bindsN F_is_within fun _ _ _ _ _ _ us hl => match us, hl with | [_, _, _], _ => rfl
  obtain ⟨fd_law_late_rule, F_law_late_rule⟩ := c.1.1.1.def_ 9 (d := d_law_late_rule) rfl
  have b_law_late_rule : Binds K fd_law_late_rule ["pot"] [] := FunD.bindsN F_law_late_rule fun _ _ _ _ _ _ us hl => match us, hl with | [_], _ => rfl
  obtain ⟨fd_law_share_rule, F_law_share_rule⟩ := c.1.1.1.def_ 10 (d := d_law_share_rule) rfl
  have b_law_share_rule : Binds K fd_law_share_rule ["pot"] [] := FunD.bindsN F_law_share_rule fun _ _ _ _ _ _ us hl => match us, hl with | [_], _ => rfl
  obtain ⟨fd_law_odd, F_law_odd⟩ := c.1.1.1.def_ 11 (d := d_law_odd) rfl
  have b_law_odd : Binds K fd_law_odd ["pot"] [] := FunD.bindsN F_law_odd fun _ _ _ _ _ _ us hl => match us, hl with | [_], _ => rfl
  obtain ⟨fd_law_share_memory, F_law_share_memory⟩ := c.1.1.1.def_ 12 (d := d_law_share_memory) rfl
  have b_law_share_memory : Binds K fd_law_share_memory ["pot", "rule"] [] := FunD.bindsN F_law_share_memory fun _ _ _ _ _ _ us hl => match us, hl with | [_, _], _ => rfl
  obtain ⟨fd_law_is_share, F_law_is_share⟩ := c.1.1.1.def_ 13 (d := d_law_is_share) rfl
  have b_law_is_share : Binds K fd_law_is_share ["thing"] [] := FunD.bindsN F_law_is_share fun _ _ _ _ _ _ us hl => match us, hl with | [_], _ => rfl
  obtain ⟨fd_law_is_share_memory, F_law_is_share_memory⟩ := c.1.1.1.def_ 14 (d := d_law_is_share_memory) rfl
  have b_law_is_share_memory : Binds K fd_law_is_share_memory ["rule", "thing"] [] := FunD.bindsN F_law_is_share_memory fun _ _ _ _ _ _ us hl => match us, hl with | [_, _], _ => rfl
  obtain ⟨fd_check_number, F_check_number⟩ := c.1.1.1.def_ 15 (d := d_check_number) rfl
  have b_check_number : Binds K fd_check_number ["thing", "low", "high"] [] := FunD.bindsN F_check_number fun _ _ _ _ _ _ us hl => match us, hl with | [_, _, _], _ => rfl
  obtain ⟨fd_is_share, F_is_share⟩ := c.1.1.1.def_ 16 (d := d_is_share) rfl
  have b_is_share : Binds K fd_is_share ["thing"] [] := FunD.bindsN F_is_share fun _ _ _ _ _ _ us hl => match us, hl with | [_], _ => rfl
  obtain ⟨fd_fits_share, F_fits_share⟩ := c.1.1.1.def_ 17 (d := d_fits_share) rfl
  have b_fits_share : Binds K fd_fits_share ["rule", "thing"] [] := FunD.bindsN F_fits_share fun _ _ _ _ _ _ us hl => match us, hl with | [_, _], _ => rfl
  obtain ⟨fd_law_spoilt, F_law_spoilt⟩ := c.1.1.1.def_ 18 (d := d_law_spoilt) rfl
  have b_law_spoilt : Binds K fd_law_spoilt ["pot", "thing"] [] := FunD.bindsN F_law_spoilt fun _ _ _ _ _ _ us hl => match us, hl with | [_, _], _ => rfl
  obtain ⟨fd_check_wait, F_check_wait⟩ := c.1.1.1.def_ 19 (d := d_check_wait) rfl
  have b_check_wait : Binds K fd_check_wait ["wait"] [] := FunD.bindsN F_check_wait fun _ _ _ _ _ _ us hl => match us, hl with | [_], _ => rfl
  obtain ⟨fd_check_share, F_check_share⟩ := c.1.1.1.def_ 20 (d := d_check_share) rfl
  have b_check_share : Binds K fd_check_share ["rule"] [] := FunD.bindsN F_check_share fun _ _ _ _ _ _ us hl => match us, hl with | [_], _ => rfl
  obtain ⟨fd_law_rules, F_law_rules⟩ := c.1.1.1.def_ 21 (d := d_law_rules) rfl
  have b_law_rules : Binds K fd_law_rules ["pot", "rule"] [] := FunD.bindsN F_law_rules fun _ _ _ _ _ _ us hl => match us, hl with | [_, _], _ => rfl
  obtain ⟨fd_law_memories, F_law_memories⟩ := c.1.1.1.def_ 22 (d := d_law_memories) rfl
  have b_law_memories : Binds K fd_law_memories ["pot", "rule"] [] := FunD.bindsN F_law_memories fun _ _ _ _ _ _ us hl => match us, hl with | [_, _], _ => rfl
  obtain ⟨fd_is_share_memory, F_is_share_memory⟩ := c.1.1.1.def_ 23 (d := d_is_share_memory) rfl
  have b_is_share_memory : Binds K fd_is_share_memory ["rule", "thing"] [] := FunD.bindsN F_is_share_memory fun _ _ _ _ _ _ us hl => match us, hl with | [_, _], _ => rfl
  obtain ⟨fd_share_first, F_share_first⟩ := c.1.1.1.def_ 24 (d := d_share_first) rfl
  have b_share_first : Binds K fd_share_first ["rule"] [] := FunD.bindsN F_share_first fun _ _ _ _ _ _ us hl => match us, hl with | [_], _ => rfl
  obtain ⟨fd_check_memory, F_check_memory⟩ := c.1.1.1.def_ 25 (d := d_check_memory) rfl
  have b_check_memory : Binds K fd_check_memory ["rule", "memory"] [] := FunD.bindsN F_check_memory fun _ _ _ _ _ _ us hl => match us, hl with | [_, _], _ => rfl
  obtain ⟨fd_share_renewed, F_share_renewed⟩ := c.1.1.1.def_ 26 (d := d_share_renewed) rfl
  have b_share_renewed : Binds K fd_share_renewed ["rule", "memory", "wait"] [] := FunD.bindsN F_share_renewed fun _ _ _ _ _ _ us hl => match us, hl with | [_, _, _], _ => rfl
  obtain ⟨fd_share_come, F_share_come⟩ := c.1.1.1.def_ 27 (d := d_share_come) rfl
  have b_share_come : Binds K fd_share_come ["rule", "memory"] [] := FunD.bindsN F_share_come fun _ _ _ _ _ _ us hl => match us, hl with | [_, _], _ => rfl
  obtain ⟨fd_share_passed, F_share_passed⟩ := c.1.1.1.def_ 28 (d := d_share_passed) rfl
  have b_share_passed : Binds K fd_share_passed ["rule", "memory"] [] := FunD.bindsN F_share_passed fun _ _ _ _ _ _ us hl => match us, hl with | [_, _], _ => rfl
  obtain ⟨fd_share_struck, F_share_struck⟩ := c.1.1.1.def_ 29 (d := d_share_struck) rfl
  have b_share_struck : Binds K fd_share_struck ["rule", "memory", "many"] [] := FunD.bindsN F_share_struck fun _ _ _ _ _ _ us hl => match us, hl with | [_, _, _], _ => rfl
  obtain ⟨fd_law_met, F_law_met⟩ := c.1.1.1.def_ 30 (d := d_law_met) rfl
  have b_law_met : Binds K fd_law_met ["call"] [] := FunD.bindsN F_law_met fun _ _ _ _ _ _ us hl => match us, hl with | [_], _ => rfl
  obtain ⟨fd_law_right, F_law_right⟩ := c.1.1.1.def_ 31 (d := d_law_right) rfl
  have b_law_right : Binds K fd_law_right ["pot", "rule"] [] := FunD.bindsN F_law_right fun _ _ _ _ _ _ us hl => match us, hl with | [_, _], _ => rfl
  obtain ⟨fd_law, F_law⟩ := c.1.1.1.def_ 32 (d := d_law) rfl
  have T : Txt K mg := ⟨errF_ok X G c.1.2, He.free_ok X G (c.1.1.1.fact 33 (f := .free "ValueError") rfl), He.free_ok X G (c.1.1.1.fact 34 (f := .free "abs") rfl), He.free_ok X G (c.1.1.1.fact 35 (f := .free "bool") rfl), He.free_ok X G (c.1.1.1.fact 36 (f := .free "int") rfl), He.free_ok X G (c.1.1.1.fact 37 (f := .free "isinstance") rfl), He.free_ok X G (c.1.1.1.fact 38 (f := .free "len") rfl), He.free_ok X G (c.1.1.1.fact 39 (f := .free "list") rfl), He.free_ok X G (c.1.1.1.fact 40 (f := .free "max") rfl), He.free_ok X G (c.1.1.1.fact 41 (f := .free "min") rfl), He.free_ok X G (c.1.1.1.fact 42 (f := .free "range") rfl), He.free_ok X G (c.1.1.1.fact 43 (f := .free "repr") rfl), He.free_ok X G (c.1.1.1.fact 44 (f := .free "tuple") rfl), He.int_ok X G (c.1.1.1.fact 45 (f := .int "MOST_COME" 9999) rfl), He.int_ok X G (c.1.1.1.fact 46 (f := .int "MOST_FACTOR" 999) rfl), He.int_ok X G (c.1.1.1.fact 47 (f := .int "MOST_MARK" 99) rfl), He.int_ok X G (c.1.1.1.fact 48 (f := .int "MOST_OLD" 99) rfl), He.int_ok X G (c.1.1.1.fact 49 (f := .int "MOST_PERIOD" 99) rfl), He.int_ok X G (c.1.1.1.fact 50 (f := .int "MOST_WAIT" 1000000) rfl), He.int_ok X G (c.1.1.1.fact 51 (f := .int "WHOLE_SHARE" 1000) rfl)⟩
  have e := hfa.symm.trans (He.glo_ok X G (c.1.1.1.fact 32 (f := .glo "law") rfl))
  cases e
  have b := FunD.bindsA (ps := ["script"]) F_law fun _ _ _ _ _ _ us hl => match us, hl with | [_], _ => rfl
  refine ⟨fd_law, fun s v => b s [v] rfl, fun base TB => ?_⟩
  have C_is_whole := ok_is_whole (P := P) (w := w) (base := base) T  F_is_whole b_is_whole (He.glo_ok X G (c.1.1.1.fact 0 (f := .glo "is_whole") rfl))
  have C_renew_share := ok_renew_share (P := P) (w := w) (base := base) T  F_renew_share b_renew_share (He.glo_ok X G (c.1.1.1.fact 1 (f := .glo "renew_share") rfl))
  have C_come_share := ok_come_share (P := P) (w := w) (base := base) T  F_come_share b_come_share (He.glo_ok X G (c.1.1.1.fact 2 (f := .glo "come_share") rfl))
  have C_pass_share := ok_pass_share (P := P) (w := w) (base := base) T  F_pass_share b_pass_share (He.glo_ok X G (c.1.1.1.fact 3 (f := .glo "pass_share") rfl))
  have C_law_pot := ok_law_pot (P := P) (w := w) (base := base) T  F_law_pot b_law_pot (He.glo_ok X G (c.1.1.1.fact 4 (f := .glo "_law_pot") rfl))
  have C_law_take := ok_law_take (P := P) (w := w) (base := base) T  F_law_take b_law_take (He.glo_ok X G (c.1.1.1.fact 5 (f := .glo "_law_take") rfl))
  have C_law_whole := ok_law_whole (P := P) (w := w) (base := base) T  F_law_whole b_law_whole (He.glo_ok X G (c.1.1.1.fact 6 (f := .glo "_law_whole") rfl))
  have C_law_word := ok_law_word (P := P) (w := w) (base := base) T  F_law_word b_law_word (He.glo_ok X G (c.1.1.1.fact 7 (f := .glo "_law_word") rfl))
  have C_is_within := ok_is_within (P := P) (w := w) (base := base) T C_is_whole F_is_within b_is_within (He.glo_ok X G (c.1.1.1.fact 8 (f := .glo "is_within") rfl))
  have C_law_late_rule := ok_law_late_rule (P := P) (w := w) (base := base) T C_law_take F_law_late_rule b_law_late_rule (He.glo_ok X G (c.1.1.1.fact 9 (f := .glo "_law_late_rule") rfl))
  have C_law_share_rule := ok_law_share_rule (P := P) (w := w) (base := base) T C_law_take F_law_share_rule b_law_share_rule (He.glo_ok X G (c.1.1.1.fact 10 (f := .glo "_law_share_rule") rfl))
  have C_law_odd := ok_law_odd (P := P) (w := w) (base := base) T C_law_take F_law_odd b_law_odd (He.glo_ok X G (c.1.1.1.fact 11 (f := .glo "_law_odd") rfl))
  have C_law_share_memory := ok_law_share_memory (P := P) (w := w) (base := base) T C_law_take F_law_share_memory b_law_share_memory (He.glo_ok X G (c.1.1.1.fact 12 (f := .glo "_law_share_memory") rfl))
  have C_law_is_share := ok_law_is_share (P := P) (w := w) (base := base) T C_law_whole F_law_is_share b_law_is_share (He.glo_ok X G (c.1.1.1.fact 13 (f := .glo "_law_is_share") rfl))
  have C_law_is_share_memory := ok_law_is_share_memory (P := P) (w := w) (base := base) T C_law_whole F_law_is_share_memory b_law_is_share_memory (He.glo_ok X G (c.1.1.1.fact 14 (f := .glo "_law_is_share_memory") rfl))
  have C_check_number := ok_check_number (P := P) (w := w) (base := base) T C_is_within F_check_number b_check_number (He.glo_ok X G (c.1.1.1.fact 15 (f := .glo "check_number") rfl))
  have C_is_share := ok_is_share (P := P) (w := w) (base := base) T C_is_within F_is_share b_is_share (He.glo_ok X G (c.1.1.1.fact 16 (f := .glo "is_share") rfl))
  have C_fits_share := ok_fits_share (P := P) (w := w) (base := base) T C_is_within F_fits_share b_fits_share (He.glo_ok X G (c.1.1.1.fact 17 (f := .glo "fits_share") rfl))
  have C_law_spoilt := ok_law_spoilt (P := P) (w := w) (base := base) T C_law_take C_law_odd F_law_spoilt b_law_spoilt (He.glo_ok X G (c.1.1.1.fact 18 (f := .glo "_law_spoilt") rfl))
  have C_check_wait := ok_check_wait (P := P) (w := w) (base := base) T C_check_number F_check_wait b_check_wait (He.glo_ok X G (c.1.1.1.fact 19 (f := .glo "check_wait") rfl))
  have C_check_share := ok_check_share (P := P) (w := w) (base := base) T C_is_share F_check_share b_check_share (He.glo_ok X G (c.1.1.1.fact 20 (f := .glo "_check_share") rfl))
  have C_law_rules := ok_law_rules (P := P) (w := w) (base := base) T C_law_take C_law_spoilt C_law_late_rule C_law_odd F_law_rules b_law_rules (He.glo_ok X G (c.1.1.1.fact 21 (f := .glo "_law_rules") rfl))
  have C_law_memories := ok_law_memories (P := P) (w := w) (base := base) T C_law_share_memory C_law_spoilt C_law_take C_law_share_rule C_law_odd F_law_memories b_law_memories (He.glo_ok X G (c.1.1.1.fact 22 (f := .glo "_law_memories") rfl))
  have C_is_share_memory := ok_is_share_memory (P := P) (w := w) (base := base) T C_check_share C_fits_share F_is_share_memory b_is_share_memory (He.glo_ok X G (c.1.1.1.fact 23 (f := .glo "is_share_memory") rfl))
  have C_share_first := ok_share_first (P := P) (w := w) (base := base) T C_check_share F_share_first b_share_first (He.glo_ok X G (c.1.1.1.fact 24 (f := .glo "share_first") rfl))
  have C_check_memory := ok_check_memory (P := P) (w := w) (base := base) T C_is_share_memory F_check_memory b_check_memory (He.glo_ok X G (c.1.1.1.fact 25 (f := .glo "_check_memory") rfl))
  have C_share_renewed := ok_share_renewed (P := P) (w := w) (base := base) T C_check_memory C_check_wait C_renew_share F_share_renewed b_share_renewed (He.glo_ok X G (c.1.1.1.fact 26 (f := .glo "share_renewed") rfl))
  have C_share_come := ok_share_come (P := P) (w := w) (base := base) T C_check_memory C_come_share F_share_come b_share_come (He.glo_ok X G (c.1.1.1.fact 27 (f := .glo "share_come") rfl))
  have C_share_passed := ok_share_passed (P := P) (w := w) (base := base) T C_check_memory C_pass_share F_share_passed b_share_passed (He.glo_ok X G (c.1.1.1.fact 28 (f := .glo "share_passed") rfl))
  have C_share_struck := ok_share_struck (P := P) (w := w) (base := base) T C_check_memory C_check_number C_come_share F_share_struck b_share_struck (He.glo_ok X G (c.1.1.1.fact 29 (f := .glo "share_struck") rfl))
  have C_law_met := ok_law_met (P := P) (w := w) (base := base) T C_law_word F_law_met b_law_met (He.glo_ok X G (c.1.1.1.fact 30 (f := .glo "_law_met") rfl))
  have C_law_right := ok_law_right (P := P) (w := w) (base := base) T C_law_odd C_law_whole C_law_met C_law_rules C_law_memories C_law_take C_law_is_share C_law_is_share_memory C_share_come C_share_renewed C_share_struck C_share_first C_share_passed F_law_right b_law_right (He.glo_ok X G (c.1.1.1.fact 31 (f := .glo "_law_right") rfl)) rfl TB
  exact ok_law T C_law_pot C_law_right C_law_share_rule F_law
end Law
open PySem PySem.W PySem.Calls PyProof.Rows
theorem PySem.Challenge.cw_waitmark_k19_share_rules_refused_holds : PySem.Challenge.rw_waitmark_k19_share_rules_refused.Holds := by
  w_on; o_law
  refine HandSHeadRun.head_any (r := PySem.W.OpenLaw.row PySem.Challenge.rw_waitmark_k19_share_rules_refused) (q := view (PySem.W.OpenLaw.row PySem.Challenge.rw_waitmark_k19_share_rules_refused).prog [55]) (H := Law.hk) (ob := Law.ob) (M := 6000) (loose := Law.loose) (d := HandSHeadRun.topDef (PySem.W.OpenLaw.row PySem.Challenge.rw_waitmark_k19_share_rules_refused).prog 55) (kwd := []) Law.ob_eq
    (by kernel_rfl) (fun s => by kernel_rfl) Law.run (by kernel_rfl) (by kernel_rfl) (by kernel_rfl) (by rfl) (by first | assumption | decide +kernel) (by decide +kernel) ⟨rfl, rfl, rfl, rfl, rfl, by decide +kernel⟩ ?hw ?hc
  case hw => w_witness2
  case hc =>
    refine Kp.walk_gT (nm := "_law_right") (qn := "_law_right.<locals>.<lambda>") (l := PySem.Challenge.rw_waitmark_k19_share_rules_refused) (n := 63) (k := 11) (x := "script") rfl (by decide) (by kernel_rfl) ⟨rfl, by decide, by decide⟩ ?F
    intro w mg fa h Y G hmg0
    obtain ⟨K, KX, c⟩ := Y
    have hmg : mg ("law" : PySem.Str) = some (.ref fa) := by
      have e : (HandSHeadRun.topDef (PySem.W.OpenLaw.row PySem.Challenge.rw_waitmark_k19_share_rules_refused).prog 55).name = ("law" : PySem.Str) := by kernel_rfl
      rw [← e]
      exact hmg0
    obtain ⟨fd, hb, hF⟩ := Law.facts (P := (PySem.Challenge.rw_waitmark_k19_share_rules_refused).prog) (w := w) KX G hmg c
    exact ⟨K, fd, KX, c.2 _ (List.mem_singleton.mpr rfl), hb, hF⟩
