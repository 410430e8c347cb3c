import PyProof.Rows.All
import Wide.All
import OpenK.AllK
import Wide.FinOn
import KE.KFromBytes
import KE.KExcSuper
import HandS.Base
import HandS.Call
import HandS.Exc
import HandS.Ends
import HandS.Words
import KE.KExcIs
import HandS.ForExc
import HandS.ForMost
import HandS.IsInst
import HandS.Walk
import HandS.TupAny
import HandS.More
import PyProof.WalkInts
import KE.GoesMore
import PyProof.EnumMake
import PyProof.EnumFor
import HandS.Wide
import HandS.WideMore
import PyProof.ReprBulk
import HandS.MakeKwOnly
import PyProof.StrOps2
import HandS.Dict
import HandS.NoneIn
import KE.KTupSum
import HandS.Strs
import HandS.Style
import PySem.Challenge.RW_lineends_k66_whole_powers_by_copies
set_option Elab.async false
set_option linter.all false
set_option maxRecDepth 100000
set_option maxHeartbeats 4000000
/-! An own error class over ValueError, called by position or by keyword: what it leaves. -/
namespace Lx
open PySem PySem.HandSPX
open PySem.W (Looks)
section
variable {M : Model} {prog : Program} {w : World} {A : Around} {E : Value → Shared → Prop} {R : Result → Shared → Prop}
variable {h : Heap} {gn : Array GenState} {dr : Drawn} {tk : Nat} {os : OsState}
variable {nm q : Str} {C N : Addr} {bs bm bmB : List Value} {hd : Bool} {sn : List Str} {sub : List Value} {ab : Bool} {col : Option Bool} {dd : Option Addr} {k0 k1 k2 k3 k5 : Option Value} {B nid iid : String}
/-- the maker's own check, with keywords -/
theorem newCheck (F : ExcBaseFacts B nid iid bmB) (hT : ∀ Y : String, bm.contains (.type Y) = bmB.contains (.type Y)) {pos : List Value} {kw : List (Str × Value)} {Q : Unit → Shared → Prop}
    (hC : h.get? C = some (excClassObj nm q C N bs bm hd sn sub ab col dd k0 k1 k2 k3 k5 nid)) (hq : Q () ⟨h, gn, dr, tk, os⟩) :
    wpAny M A (checkBuiltinCall nid ⟨.ref C :: pos, kw⟩) Q E ⟨h, gn, dr, tk, os⟩ := by
  have c0 : (Value.ref C :: bm).contains (.type B) = true := by
    rw [List.contains_cons, hT, F.hasB, Bool.or_true]
  have c1 := F.noStar
  simp only [checkBuiltinCall, F.newKind, F.newSplit, F.newRow]
  repeat (first
    | refine wpAny_loadPart_at hC ?_
    | (refine wpAny_isSubtype_exc hC ?_; rw [c0])
    | refine wpAny_staticBase_exc hC ?_
    | refine wpAny_madeBy_exc hC ?_
    | simp only [bne_self_eq_false, Bool.false_eq_true, if_false]
    | wp_step)
  exact hq
/-- the maker: the arguments by position alone are laid -/
theorem newMakes (F : ExcBaseFacts B nid iid bmB) (hT : ∀ Y : String, bm.contains (.type Y) = bmB.contains (.type Y)) {pos : List Value} {kw : List (Str × Value)}
    (hC : h.get? C = some (excClassObj nm q C N bs bm hd sn sub ab col dd k0 k1 k2 k3 k5 nid)) (hl : pos.length ≤ sizeLine)
    (hq : R (.ok (.ret (.ref (h.objs.size + 1)))) ⟨(h.push (W.kdv_tup pos)).push (excO C h.objs.size), gn, dr, tk, os⟩) :
    codeAny (model prog w) A (.builtin nid ⟨.ref C :: pos, kw⟩) R ⟨h, gn, dr, tk, os⟩ := by
  have e1 := F.ends
  have c0 : (Value.ref C :: bm).contains (.type B) = true := by
    rw [List.contains_cons, hT, F.hasB, Bool.or_true]
  have c1 : (Value.ref C :: bm).contains (.type "AttributeError") = false := by
    rw [List.contains_cons, hT, F.noAttr]; rfl
  have c2 : (Value.ref C :: bm).contains (.type "NameError") = false := by
    rw [List.contains_cons, hT, F.noName]; rfl
  refine codeAny_builtinAt F.entry ?_
  unfold Builtin.«BaseException.__new__»
  refine wpAt_bind ?_
  show wpAt _ _ _ (stack >>= _) _ _ _
  refine wpAt_bind (wpAt_stack fun p below => wpAt_of_wpAny ?_)
  wp_walk
  refine wpAt_of_wpAny ?_
  rw [F.owner]
  repeat (first
    | with_reducible refine wpAny_madeHere_exc F.canon hC ?_
    | with_reducible refine wpAny_loadPart_at hC ?_
    | (with_reducible refine wpAny_isSubtype_exc hC ?_; first | rw [c0] | rw [c1] | rw [c2])
    | wp_step)
  show R _ _
  rw [Heap.size_push]
  exact hq
/-- the class's call: the maker, then the class's own __init__ -/
theorem typeCalls (F : ExcBaseFacts B nid iid bmB) (hT : ∀ Y : String, bm.contains (.type Y) = bmB.contains (.type Y)) {pos : List Value} {kw : List (Str × Value)} {fI : Addr} {Q : Fin → Shared → Prop}
    (hC : h.get? C = some (excClassObj nm q C N bs bm hd sn sub ab col dd k0 k1 k2 k3 k5 nid))
    (hi : Looks (model prog w) h (typeLookup (.ref C) "__init__") (some (.ref fI))) (hb : ∀ self, Looks (model prog w) h (bindSpecial (.ref fI) self) (.ref fI, [self])) (hl : pos.length ≤ sizeLine)
    (hq : codeAny (model prog w) A (.call (.ref fI) ⟨.ref (h.objs.size + 1) :: pos, kw⟩)
      (fun r s' => match r with | .ok (.ret v) => v = .none ∧ Q (.done (.ret (.ref (h.objs.size + 1)))) s' | .ok _ => False | .error e => E e s')
      ⟨(h.push (W.kdv_tup pos)).push (excO C h.objs.size), gn, dr, tk, os⟩) :
    wpAny (model prog w) A (Builtin.«type.__call__» ⟨.ref C :: pos, kw⟩) Q E ⟨h, gn, dr, tk, os⟩ := by
  repeat (first | with_reducible refine wpAny_loadPart_at hC ?_ | with_reducible refine wpAny_madeBy_exc hC ?_ | wp_step)
  refine codeAny_call_builtin_code (Code.quiet_builtin _ F.quiet) (newCheck F hT hC ?_)
  refine newMakes F hT hC hl ?_
  show wpAny _ _ _ _ _ _
  have kp : ∀ b o, h.get? b = some o → ((h.push (W.kdv_tup pos)).push (excO C h.objs.size)).get? b = some o := fun b o e => Heap.get?_push_of_some _ (Heap.get?_push_of_some _ e)
  have hC1 := kp _ _ hC
  have hg : ((h.push (W.kdv_tup pos)).push (excO C h.objs.size)).get? (h.objs.size + 1) = some (excO C h.objs.size) := by heap_get
  have hs : (Value.ref C :: bm).contains (.ref C) = true := by simp
  have i1 := hi.keeps kp
  have b1 := (hb (.ref (h.objs.size + 1))).keeps kp
  unfold isInstance
  repeat (first | with_reducible refine wpAny_loadPart_at hg ?_ | (with_reducible refine wpAny_isSubtype_exc hC1 ?_; rw [hs]) | wp_step)
  show wpAny _ _ (typeLookup (.ref C) _) _ _ _
  refine i1.at ?_
  refine wpAny_holding (wpAny_bind (b1.at ?_))
  refine wpAny_bind (wpAny_call (codeAny_mono hq fun r s' z => ?_))
  rcases r with e | (v | _ | _ | _) <;> first | exact z | exact z.elim | skip
  obtain ⟨rfl, z⟩ := z
  first
    | exact wpAny_pure (wpAny_pure z)
    | (wp_walk; exact z)
end
end Lx
namespace Lx
open PySem PySem.HandSPX
open PySem.W (Looks)
open L2 (defArgs defBody defScope)
/-! ### the text of an error's __init__ -/
def inA (a b : Pos) : Arguments := { posonlyargs := [], args := [{ arg := "self", annotation := none, pos := a }, { arg := "value", annotation := none, pos := b }], vararg := none, kwonlyargs := [], kw_defaults := [], kwarg := none, defaults := [] }
def inB (msg : Str) (a b c d e f g i j k : Pos) : List Stmt :=
  [.Expr (.Call (.Attribute (.Call (.Name "super" a) [] [] b) "__init__" c) [.Constant (.str msg) 0 d] [] e) f, .Assign [.Attribute (.Name "self" g) "value" i] (.Name "value" j) k]
def SupCall (msg : Str) (a b c d e : Pos) : Prop := ∀ env : Env, ∃ pl : Sem Bool, eval (.Call (.Attribute (.Call (.Name "super" a) [] [] b) "__init__" c) [.Constant (.str msg) 0 d] [] e) env = (do
  let ov ← attributeBase (.Call (.Name "super" a) [] [] b) "__init__" env (eval (.Call (.Name "super" a) [] [] b) env)
  standAt c.atName
  let (f, first) ← holding [ov] (getMethod ov "__init__" pl)
  callWith e f first (backTo e (starEach [.Constant (.str msg) 0 d] env)) [])
def inS : Scope := { kind := .function, names := [(PySem.Str.ofString "self", .local), (PySem.Str.ofString "value", .local), (PySem.Str.ofString "__class__", .free), (PySem.Str.ofString "super", .globalImplicit)], isGenerator := false, isCoroutine := false, more := [] }
/-- what the written part says of the errors' own base, at L -/
structure LineC (K : PySem.W.Frag) (mg : Str → Option Value) (L : Addr) : Prop where
  gL : mg "LineError" = some (.ref L)
  cls : ∃ n q N bs sn sub ab col dd k0 k1 k2 k3 k5, K.lookup L = some (excClassObj n q L N bs HandSPX.veTail true sn sub ab col dd k0 k1 k2 k3 k5 "ValueError.__new__")
  ini : PySem.W.findIn K (.ref L) "__init__" = some (some (.builtin "ValueError.__init__"))
  ty : PySem.W.typeIn K (.ref L) = some (.type "type")
  exB : PySem.W.subIn K (.ref L) (.type "BaseException") = some true
  sup : PySem.W.nsIn K mainGlobals "super" = some none
  opq : PySem.W.nsIn K cStatics "thirdparty.any" = some none
  sp : PySem.W.specialIn K (.builtin "object.__class__") "__get__" = some (some (.builtin "getset_descriptor.__get__"))
  tk : PySem.W.takesIn K (.builtin "object.__class__") = some true
/-- what the written part says of an error class at C, whose base stands at L; st is the text of its __init__, qual that def's long name, nm the class's name -/
structure ErrC (K : PySem.W.Frag) (file : Str) (mg : Str → Option Value) (L : Addr) (nm qual : Str) (st : Stmt) (C : Addr) : Prop where
  gC : mg nm = some (.ref C)
  cls : ∃ n q N bs sn sub ab col dd k0 k1 k2 k3 k5, K.lookup C = some (excClassObj n q C N bs (.ref L :: HandSPX.veTail) true sn sub ab col dd k0 k1 k2 k3 k5 "ValueError.__new__")
  sa : PySem.W.findIn K (.ref C) "__setattr__" = some (some (.builtin "object.__setattr__"))
  ga : PySem.W.findIn K (.ref C) "__getattribute__" = some (some (.builtin "BaseException.__getattribute__"))
  gg : PySem.W.findIn K (.ref C) "__getattr__" = some none
  ca : PySem.W.findIn K (.ref C) "__class__" = some (some (.builtin "object.__class__"))
  nv : PySem.W.findIn K (.ref C) "value" = some none
  ty : PySem.W.typeIn K (.ref C) = some (.type "type")
  kp : PySem.W.keepIn K (.ref C) = true
  init : ∃ fI : Addr, PySem.W.findIn K (.ref C) "__init__" = some (some (.ref fI)) ∧ PySem.W.typeIn K (.ref fI) = some (.type "function") ∧
    ∃ (oc : Value) (od : Option Addr) (doc pm : Value) (an : Option Addr) (cc cda : Addr) (ct : Value) (osl : Array (Option Value)),
      K.lookup fI = some ⟨oc, od, .func (PySem.W.fnX "__init__" qual (defArgs st) (defBody st) (defScope st) [("__class__", cc)] .none .none doc pm an (.ref cda) ct), osl⟩ ∧ PySem.W.codeIn K (.ref cda) qual = true ∧
      (∃ (cl : Value) (cd : Option Addr) (vs : Array Value) (cs : Array (Option Value)) (tf : Tok), K.lookup cda = some ⟨cl, cd, .fields vs, cs⟩ ∧ vs[2]? = some (.str file tf)) ∧
      ∃ (cl : Value) (cd : Option Addr) (cs : Array (Option Value)), K.lookup cc = some ⟨cl, cd, .cell (some (.ref C)), cs⟩
  tA : ∃ a b, defArgs st = inA a b
  tB : ∃ msg a b c d e f g i j k, defBody st = inB msg a b c d e f g i j k ∧ SupCall msg a b c d e
  tS : defScope st = inS
theorem LineC.along {K : PySem.W.Frag} {mg : Str → Option Value} {L : Addr} (T : LineC K mg L) : PySem.W.alongIn K "__init__" (.ref L :: HandSPX.veTail) = some (some (.builtin "ValueError.__init__")) := by
  obtain ⟨n, q, N, bs, sn, sub, ab, col, dd, k0, k1, k2, k3, k5, hL⟩ := T.cls
  have e := T.ini
  simp only [PySem.W.findIn, hL] at e
  exact e
/-- the chain of classes above C -/
theorem ErrC.chain {K : PySem.W.Frag} {file : Str} {mg : Str → Option Value} {L C : Addr} {nm qual : Str} {st : Stmt} (T : ErrC K file mg L nm qual st C) : ∃ cd : ClassData, PySem.W.clsIn K C = some cd ∧ cd.mro = .ref C :: .ref L :: HandSPX.veTail ∧ cd.hasDict = true := by
  obtain ⟨n, q, N, bs, sn, sub, ab, col, dd, k0, k1, k2, k3, k5, hC⟩ := T.cls
  exact ⟨{ name := n, bases := bs, mro := .ref C :: .ref L :: HandSPX.veTail, ns := N, qualname := q, hasDict := true, slotNames := sn, subclasses := sub, abstract := ab, collection := col, hasDel := false }, by unfold PySem.W.clsIn; rw [hC] <;> rfl, rfl, rfl⟩
theorem ErrC.under {K : PySem.W.Frag} {file : Str} {mg : Str → Option Value} {L C : Addr} {nm qual : Str} {st : Stmt} (T : ErrC K file mg L nm qual st C) (b : Value) : PySem.W.mroIn K C b = some ((Value.ref C :: .ref L :: HandSPX.veTail).contains b) := by
  obtain ⟨cd, e1, e2, _⟩ := T.chain
  unfold PySem.W.mroIn
  rw [e1, Option.bind_some, e2]
  rfl
section
variable {prog : Program} {w : World} {A : Around} {E : Value → Shared → Prop} {R : Result → Shared → Prop} {M : Model}
variable {h : Heap} {gn : Array GenState} {dr : Drawn} {tk : Nat} {os : OsState}
variable {nm q : Str} {C N : Addr} {bs bm bmB : List Value} {hdt : Bool} {sn : List Str} {sub : List Value} {ab : Bool} {col : Option Bool} {dd : Option Addr} {k0 k1 k2 k3 k5 : Option Value} {B nid iid : String}
theorem tcCheck {pos : List Value} {kw : List (Str × Value)} {Q : Unit → Shared → Prop} (hC : h.get? C = some (excClassObj nm q C N bs bm hdt sn sub ab col dd k0 k1 k2 k3 k5 nid)) (hq : Q () ⟨h, gn, dr, tk, os⟩) :
    wpAny M A (checkBuiltinCall "type.__call__" ⟨.ref C :: pos, kw⟩) Q E ⟨h, gn, dr, tk, os⟩ := by
  have f3 := tc_sub
  have hT : (⟨h, gn, dr, tk, os⟩ : Shared).TypeIs (.ref C) "type" := ⟨_, hC, rfl⟩
  simp only [checkBuiltinCall, tc_kind, tc_split]
  repeat (any_goals (first | assumption | with_reducible refine wpAny_loadPart_at hC ?_ | with_reducible refine wpAny_onRaise ?_ | with_reducible refine wpAny_map ?_ | wp_step))
theorem clsCalls (F : ExcBaseFacts B nid iid bmB) (hT : ∀ Y : String, bm.contains (.type Y) = bmB.contains (.type Y)) {pos : List Value} {kw : List (Str × Value)} {fI : Addr}
    (hC : h.get? C = some (excClassObj nm q C N bs bm hdt sn sub ab col dd k0 k1 k2 k3 k5 nid))
    (hi : Looks (model prog w) h (typeLookup (.ref C) "__init__") (some (.ref fI))) (hb : ∀ self, Looks (model prog w) h (bindSpecial (.ref fI) self) (.ref fI, [self])) (hl : pos.length ≤ sizeLine)
    (hq : codeAny (model prog w) (A.under (.builtin "type.__call__" ⟨.ref C :: pos, kw⟩)) (.call (.ref fI) ⟨.ref (h.objs.size + 1) :: pos, kw⟩) (W.InitBack (h.objs.size + 1) R)
      ⟨(h.push (W.kdv_tup pos)).push (excO C h.objs.size), gn, dr, tk, os⟩) :
    codeAny (model prog w) A (.call (.ref C) ⟨pos, kw⟩) R ⟨h, gn, dr, tk, os⟩ := by
  have f1 := tc_lookup
  have f2 := tc_bind (.ref C)
  have hTy : (⟨h, gn, dr, tk, os⟩ : Shared).TypeIs (.ref C) "type" := ⟨_, hC, rfl⟩
  refine codeAny_of_tree ?_
  show wpAny _ _ (callAny (.ref C) _) _ _ _
  repeat (any_goals (first | assumption | with_reducible refine wpAny_loadPart_at hC ?_ | wp_step))
  refine ⟨rfl, ?_⟩
  refine codeAny_call_builtin_at (Code.quiet_builtin _ (by decide +kernel)) entry_typeCall (tcCheck hC (typeCalls F hT hC hi hb hl ?_))
  refine codeAny_mono hq fun r s' z => ?_
  rcases r with e | (v | _ | _ | _) <;> exact z
end
end Lx
namespace Lx
open PySem PySem.HandSPX
open PySem.W (Looks)
open L2 (defArgs defBody defScope)
/-- what __init__ leaves of a fresh error at x -/
structure InitLeft (h h' : Heap) (x C dx t1 : Addr) (v : Value) : Prop where
  keep : ∀ b o, b ≠ x → h.get? b = some o → h'.get? b = some o
  obj : h'.get? x = some { cls := .ref C, dict := some dx, data := .fields #[.ref t1, .none, .none, .none, .bool false, .none] }
  big : h.objs.size ≤ dx
  ne : dx ≠ x
  ns : h'.Ns1 dx (fun y => if y = "value" then some v else none)
/-- the two ways in which the value is handed over -/
inductive Hands (v : Value) : List Value → List (Str × Value) → Prop where
  | pos : Hands v [v] []
  | kw : Hands v [] [("value", v)]
section
variable {prog : Program} {w : World} {A : Around} {E : Value → Shared → Prop} {R : Result → Shared → Prop} {M : Model} {s : Shared}
variable {K : PySem.W.Frag} {mg mb : Str → Option Value} {nm qual : Str} {st : Stmt} {C L : Addr}
theorem initRuns (TL : LineC K mg L) (T : ErrC K prog.main.file mg L nm qual st C) {x t0 fI : Addr} {v : Value} {ps : List Value} {kw : List (Str × Value)} (hv : Hands v ps kw) (htop : (prog.main.scope.names.lookup ("super" : Str)).isSome = false)
    (hfI : PySem.W.findIn K (.ref C) "__init__" = some (some (.ref fI))) (X : K.In s.heap) (G : s.heap.Ns mainGlobals mg) (gs : mg "super" = none) (B : s.heap.Ns builtinsNs mb) (bs : mb "super" = some (.type "super"))
    (hlim : s.heap.NoLimit) (hnx : K.lookup x = none) (hx : s.heap.get? x = some (excO C t0)) (hroom : A.depth < recursionLimit)
    (hq : ∀ h' tk dx t1, InitLeft s.heap h' x C dx t1 v → R (.ok (.ret .none)) { s with heap := h', toks := tk }) :
    codeAny (model prog w) A (.call (.ref fI) ⟨.ref x :: ps, kw⟩) R s := by
  obtain ⟨n, q, N, bss, sn, sub, ab, col, dd, k0, k1, k2, k3, k5, hC⟩ := T.cls
  obtain ⟨bm, ebm⟩ : ∃ bm, bm = (Value.ref L :: HandSPX.veTail) := ⟨_, rfl⟩
  rw [← ebm] at hC
  have hbm : refsVE bm = true := by rw [ebm]; rfl
  have hal := TL.along
  rw [← ebm] at hal
  obtain ⟨f2, e2, tI, oc, od, doc, pm, an, cc, cda, ct, osl, ho, hcd, ⟨cl, cd, vs, cs, tf, hco, hvs⟩, cl2, cd2, cs2, hce⟩ := T.init
  rw [hfI] at e2
  obtain rfl : fI = f2 := Value.ref.inj (Option.some.inj (Option.some.inj e2))
  obtain ⟨a1, a2, eA⟩ := T.tA
  obtain ⟨msg, p0, p1, p2, p3, p4, p5, q1, q2, q3, q4, eB, hsc⟩ := T.tB
  rw [eA, eB, T.tS] at ho
  have hcl : PySem.W.clsIn K C = some { name := n, bases := bss, mro := .ref C :: bm, ns := N, qualname := q, hasDict := true, slotNames := sn, subclasses := sub, abstract := ab, collection := col, hasDel := false } := by
    unfold PySem.W.clsIn; rw [hC] <;> rfl
  have hcC : (Value.ref C :: bm).contains (.ref C) = true := by simp
  have hbase : ∀ Y : String, bm.contains (.type Y) = HandSPX.veTail.contains (.type Y) := fun Y => refsVE_contains Y bm hbm
  refine ks_codeAny_call_defAt (fd := PySem.W.fnX "__init__" qual (inA a1 a2) (inB msg p0 p1 p2 p3 p4 p5 q1 q2 q3 q4) inS [("__class__", cc)] .none .none doc pm an (.ref cda) ct) (body := inB msg p0 p1 p2 p3 p4 p5 q1 q2 q3 q4)
    (binds := [("self", .ref x), ("value", v)]) hroom (X _ _ ho) rfl hlim (PySem.W.codeRec_of X hcd) rfl ?_ (show ∀ y ∈ inS.names, y.2 ≠ .cell by decide) (by intro y hy; simp only [List.mem_cons, List.not_mem_nil, or_false] at hy; rcases hy with rfl | rfl <;> rfl) (fun h1 hns hk => ?_) rfl rfl rfl
  · cases hv with
    | pos => exact .of_eq (by first | rfl | with_unfolding_all rfl)
    | kw => exact .of_eq (by first | rfl | with_unfolding_all rfl)
  have X1 : K.In h1 := X.keeps hk
  have hx1 := hk _ _ hx
  have hC1 := X1 _ _ hC
  have hxC : x ≠ C := fun z => by
    rw [z] at hx1
    rw [hC1] at hx1
    cases hx1
  have hL : s.heap.objs.size ≠ x := Nat.ne_of_gt (Heap.lt_size hx)
  obtain ⟨pl, hpl⟩ := hsc (callEnv (PySem.W.fnX "__init__" qual (inA a1 a2) (inB msg p0 p1 p2 p3 p4 p5 q1 q2 q3 q4) inS [("__class__", cc)] .none .none doc pm an (.ref cda) ct) s.heap.objs.size fI)
  refine ks_wpAt_execs_cons (ks_wpAt_Expr_any (ks_wpAt_MethodCall (pl := pl) ?_ hpl))
  refine ks_wpAt_super_base (env := callEnv (PySem.W.fnX "__init__" qual (inA a1 a2) (inB msg p0 p1 p2 p3 p4 p5 q1 q2 q3 q4) inS [("__class__", cc)] .none .none doc pm an (.ref cda) ct) s.heap.objs.size fI) rfl rfl rfl rfl (X1 _ _ ho) rfl rfl rfl (X1 _ _ hco) rfl hvs (by simp) htop ?_
  refine PySem.W.ks_loadName_global rfl rfl (Calls.loadGlobal_builtin (mg := mg) (mb := mb) ?_ gs ?_ bs ⟨rfl, ?_⟩)
  · obtain ⟨o, es, ep, e, r⟩ := G
    exact ⟨o, es, ep, hk _ _ e, r⟩
  · obtain ⟨o, es, ep, e, r⟩ := B
    exact ⟨o, es, ep, hk _ _ e, r⟩
  refine wpAny_loadName_free rfl rfl (c := cc) rfl ⟨_, X1 _ _ hce, rfl⟩ ?_
  refine wpAny_loadName_local (m := fun y => ([("self", .ref x), ("value", v)] : List (Str × Value)).reverse.lookup y) rfl rfl hns rfl ?_
  refine ks_wpAny_isType_cls hC1 rfl ⟨rfl, ?_⟩
  refine ks_wpAny_call_super (C := C) hC1 rfl hx1 rfl (fun c e => by cases e) (PySem.W.looks_mroIn X1 (by unfold PySem.W.mroIn; rw [hcl, Option.bind_some, if_neg (by simp), hcC])) (fun h2 hso k2' => ?_)
  have X2 : K.In h2 := X1.keeps k2'
  have hx2 := k2' _ _ hx1
  have I2 : PySem.W.InstAt h2 x (excO C t0) C none := ⟨hx2, rfl, rfl, trivial⟩
  refine PySem.W.kxs_getMethod PySem.W.kxs_ValueError hso (PySem.W.looks_opaque X2 TL.opq) (l₀ := .ref C :: bm) (l := bm) (fun A' Q' E' s' k' q' => wpAny_bind ((PySem.W.looks_clsIn X2 hcl) A' _ E' s' k' (wpAny_pure q')))
    (by simp [List.dropWhile_cons]) X2 hal (I2.type.andThen (PySem.W.looks_mroIn X2 ((T.under _).trans (by rfl)))) hxC (by decide) ?_
  have k3 : ∀ b o, h2.get? b = some o → (h2.push (PySem.W.kxs_mw "ValueError.__init__" x)).get? b = some o := fun b o e => Heap.get?_push_of_some _ e
  have hu : (h2.push (PySem.W.kxs_mw "ValueError.__init__" x)).get? h2.objs.size = some (PySem.W.kxs_mw "ValueError.__init__" x) := Heap.get?_push_at rfl rfl
  refine PySem.W.kxs_callWith (i := "ValueError.__init__") (x := x) (by rfl) ?_
  refine Calls.evalArgs_plain ?_
  refine Calls.spliced_cons (wpAny_Constant_str (k := 0) (pos := p3) (Calls.spliced_nil ⟨hu, ?_⟩))
  have hone : ([.str msg s.toks] : List Value).length ≤ sizeLine := by rw [sizeLine_eq]; exact (by decide : 1 ≤ 16777216)
  refine wpAny_call (codeAny_of_tree ?_)
  show wpAny _ _ (callAny (.ref h2.objs.size) _) _ _ _
  simp only [callAny]
  refine wpAny_bind (wpAny_load hu ?_)
  simp only [PySem.W.kxs_mw, show (Value.type "method-wrapper" == Value.type "method" || Value.type "method-wrapper" == Value.type "builtin_function_or_method" || Value.type "method-wrapper" == Value.type "method-wrapper") = true by decide, if_true]
  refine PySem.W.KFB.if_so (by decide) ?_
  refine wpAny_bind (PySem.W.check_bound_init F.excBase_ValueError.toExcCallFacts (k3 _ _ (k2' _ _ hC1)) (k3 _ _ hx2) rfl ?_)
  refine wpAny_bind (wpAny_pure (wpAny_pure ?_))
  refine ⟨plainId_quiet F.excBase_ValueError.init.plain _, codeAny_builtin F.excBase_ValueError.initEntry ?_⟩
  refine PySem.W.exc_init_tree (cls := .ref C) (t0 := t0) (dv := none) (c2 := .none) (c3 := .none) (b4 := .bool false) (k3 _ _ hx2) (by rw [sizeLine_eq]; exact (by decide : 1 ≤ 16777216)) (fun h3 k4 hx3 _ => ?_)
  show wpAt _ _ _ (execs _ _) _ _ _
  have keep3 : ∀ b o, b ≠ x → h1.get? b = some o → h3.get? b = some o := fun b o hb e => k4 b o hb (k3 _ _ (k2' _ _ e))
  have hns3 : h3.Ns s.heap.objs.size (fun y => ([("self", .ref x), ("value", v)] : List (Str × Value)).reverse.lookup y) := by
    obtain ⟨o, es, ep, e, r⟩ := hns
    exact ⟨o, es, ep, keep3 _ _ hL e, r⟩
  have X3 : K.In h3 := fun a o e => keep3 a o (fun z => by
    rw [z, hnx] at e
    cases e) (X1 a o e)
  refine ks_wpAt_execs_cons (ks_wpAt_Assign_Attr ?_)
  refine wpAt_of_wpAny (wpAny_Name (wpAny_loadName_local rfl rfl hns3 rfl ?_))
  refine wpAny_Name (wpAny_loadName_local rfl rfl hns3 rfl ?_)
  refine PySem.W.set_plain X3 (ox := excO C _) (od := none) ⟨hx3, rfl, rfl, trivial⟩ T.sa ?_
  refine exc_osa X3 hx3 hcl (show refsVE (.ref C :: bm) = true from hbm) rfl T.nv (fun h4 tk4 dx k5 dn dne hx4 hn4 => ?_)
  refine wpAt_of_wpAny (wpAny_pure ?_)
  refine hq h4 tk4 dx _ ⟨fun b o hb e => k5 b o hb (keep3 b o hb (hk b o e)), hx4, Nat.le_trans (Nat.le_of_lt hns3.lt) dn, dne, hn4⟩
end
end Lx
namespace Lx
open PySem PySem.HandSPX
/-- a made error, at e, its own dict at d -/
structure ErrMade (h h' : Heap) (e C d : Addr) (v : Value) : Prop where
  keep : ∀ b o, h.get? b = some o → h'.get? b = some o
  ebig : h.objs.size ≤ e
  obj : ∃ t1 : Addr, h'.get? e = some { cls := .ref C, dict := some d, data := .fields #[.ref t1, .none, .none, .none, .bool false, .none] }
  dbig : h.objs.size ≤ d
  ne : d ≠ e
  ns : h'.Ns1 d (fun y => if y = "value" then some v else none)
section
variable {prog : Program} {w : World} {A : Around} {R : Result → Shared → Prop} {s : Shared}
variable {K : PySem.W.Frag} {mg mb : Str → Option Value} {nm qual : Str} {st : Stmt} {C L : Addr}
theorem errMade (TL : LineC K mg L) (T : ErrC K prog.main.file mg L nm qual st C) {v : Value} {ps : List Value} {kw : List (Str × Value)} (hv : Hands v ps kw) (htop : (prog.main.scope.names.lookup ("super" : Str)).isSome = false)
    (X : K.In s.heap) (G : s.heap.Ns mainGlobals mg) (gs : mg "super" = none) (B : s.heap.Ns builtinsNs mb) (bs : mb "super" = some (.type "super")) (hlim : s.heap.NoLimit) (hroom : A.depth + 1 < recursionLimit)
    (hq : ∀ h' tk e d, ErrMade s.heap h' e C d v → R (.ok (.ret (.ref e))) { s with heap := h', toks := tk }) : codeAny (model prog w) A (.call (.ref C) ⟨ps, kw⟩) R s := by
  obtain ⟨n, q, N, bss, sn, sub, ab, col, dd, k0, k1, k2, k3, k5, hC⟩ := T.cls
  obtain ⟨fI, iC, tI, _⟩ := T.init
  obtain ⟨hp, g, dr, tk, os⟩ := s
  have kp : ∀ b o, hp.get? b = some o → ((hp.push (W.kdv_tup ps)).push (excO C hp.objs.size)).get? b = some o := fun b o e => Heap.get?_push_of_some _ (Heap.get?_push_of_some _ e)
  have hget : ((hp.push (W.kdv_tup ps)).push (excO C hp.objs.size)).get? (hp.objs.size + 1) = some (excO C hp.objs.size) := by heap_get
  have hnx : K.lookup (hp.objs.size + 1) = none := by
    cases e : K.lookup (hp.objs.size + 1) with
    | none => rfl
    | some o =>
      have z : hp.get? (hp.objs.size + 1) = some o := X _ _ e
      exact absurd (Nat.lt_of_succ_lt (Heap.lt_size z)) (Nat.lt_irrefl _)
  have hl : ps.length ≤ sizeLine := by
    cases hv with
    | pos => rw [sizeLine_eq]; exact (by decide : 1 ≤ 16777216)
    | kw => exact Nat.zero_le _
  refine clsCalls F.excBase_ValueError (fun Y => refsVE_contains Y (.ref L :: HandSPX.veTail) (by rfl)) (X _ _ hC) (W.looks_findIn X iC) (fun self => W.bind_fn X self tI) hl ?_
  refine initRuns (s := ⟨(hp.push (W.kdv_tup ps)).push (excO C hp.objs.size), g, dr, tk, os⟩) TL T hv htop iC (X.keeps kp) ?_ gs ?_ bs (hlim.keeps kp) hnx hget ?_ fun h' tk' dx t1 I => ?_
  · obtain ⟨o, es, ep, e, r⟩ := G
    exact ⟨o, es, ep, kp _ _ e, r⟩
  · obtain ⟨o, es, ep, e, r⟩ := B
    exact ⟨o, es, ep, kp _ _ e, r⟩
  · show A.depth + 1 < recursionLimit
    exact hroom
  · have z : hp.objs.size + 1 + 1 ≤ dx := by
      first
        | (simpa only [Heap.size_push] using I.big)
        | (have q := I.big; rw [Heap.size_push, Heap.size_push] at q; exact q)
    refine ⟨rfl, hq h' tk' (hp.objs.size + 1) dx ⟨fun b o e => I.keep b o (Nat.ne_of_lt (Nat.lt_succ_of_lt (Heap.lt_size e))) (kp b o e), Nat.le_succ _, ⟨t1, I.obj⟩, (show hp.objs.size ≤ dx by omega), I.ne, I.ns⟩⟩
end
end Lx
namespace Lx
open PySem PySem.Spec L2
/-- at e: an error of the class at C, its own dict at d -/
def errO (e C d : Addr) : HO := .ext fun h => ∃ t1 : Addr, h.get? e = some ({ cls := .ref C, dict := some d, data := .fields #[.ref t1, .none, .none, .none, .bool false, .none] } : Obj)
theorem errO_ok {P : Program} {w : World} {H : Hp} {h : Heap} {e C d t1 : Addr} (he : h.get? e = some ({ cls := .ref C, dict := some d, data := .fields #[.ref t1, .none, .none, .none, .bool false, .none] } : Obj)) : ObjOk P w H h e (errO e C d) :=
  ⟨⟨t1, he⟩, ⟨_, he⟩, fun _ _ ⟨t, q⟩ k => ⟨t, k _ q⟩⟩
theorem errO_at {P : Program} {w : World} {H : Hp} {h : Heap} {e C d : Addr} (hok : HOk P w H h) (he : H e = some (errO e C d)) : ∃ t1 : Addr, h.get? e = some ({ cls := .ref C, dict := some d, data := .fields #[.ref t1, .none, .none, .none, .bool false, .none] } : Obj) := by
  have x : ObjOk P w H h e (.ext fun h => ∃ t1 : Addr, h.get? e = some ({ cls := .ref C, dict := some d, data := .fields #[.ref t1, .none, .none, .none, .bool false, .none] } : Obj)) := hok e _ he
  exact x.1
/-- the fields of a made error -/
abbrev vf (v : V) : List (Str × V) := [(("value" : Str), v)]
theorem relO_vf {v : V} {u : Value} (r : RelV v u) (f : Str) : RelO (List.lookup f (vf v)) (if f = "value" then some u else none) := by
  by_cases hw : f = "value"
  · subst hw
    rw [if_pos rfl]
    have q : List.lookup ("value" : Str) (vf v) = some v := by simp [List.lookup]
    rw [q]
    exact r
  · rw [if_neg hw]
    have qw : (f == ("value" : Str)) = false := by simpa using hw
    have q2 : List.lookup f (vf v) = none := by simp [List.lookup, qw]
    rw [q2]
    trivial
section
variable {X : Cx} {pins : List (Addr × Obj)} {σ : St} {H : Hp} {s : Shared}
/-- two new objects laid at once -/
theorem laid2 {h' : Heap} {d e : Addr} {o1 o2 : HO} {t' : Nat} (I : Inv X pins σ H s) (k : ∀ b u, s.heap.get? b = some u → h'.get? b = some u) (hd : s.heap.objs.size ≤ d) (he : s.heap.objs.size ≤ e)
    (ok1 : ObjOk X.prog X.w (upd (upd H d o1) e o2) h' d o1) (ok2 : ObjOk X.prog X.w (upd (upd H d o1) e o2) h' e o2) : Inv X pins σ (upd (upd H d o1) e o2) { s with heap := h', toks := t' } := by
  have nd : H d = none := I.hok.fresh hd
  have ne : H e = none := I.hok.fresh he
  have old : ∀ b o, H b = some o → upd (upd H d o1) e o2 b = some o := fun b o q => by
    rw [upd_ne (ne_of_none q ne), upd_ne (ne_of_none q nd)]
    exact q
  have lt : ∀ (b : Addr) (o : Obj), s.heap.get? b = some o → b ≠ d ∧ b ≠ e := fun b o q => ⟨Nat.ne_of_lt (Nat.lt_of_lt_of_le (Heap.lt_size q) hd), Nat.ne_of_lt (Nat.lt_of_lt_of_le (Heap.lt_size q) he)⟩
  refine I.un (t' := t') ⟨fun b o q _ _ _ => k b o q, fun b o q _ _ _ => ⟨o.slots, k b o q⟩, fun b o q n _ => ?_, fun b o q _ => ⟨o, k b o q⟩, fun b xs q => old _ _ q, fun b o u q => old _ _ q, fun b ps q => ⟨#[], by rw [old _ _ q]; simp⟩⟩ fun b o q => ?_
  · rw [upd_ne (lt b o q).2, upd_ne (lt b o q).1]
    exact n
  · by_cases h1 : b = e
    · subst h1
      rw [upd_same] at q
      cases q
      exact ok2
    · rw [upd_ne h1] at q
      by_cases h2 : b = d
      · subst h2
        rw [upd_same] at q
        cases q
        exact ok1
      · rw [upd_ne h2] at q
        exact (I.hok b o q).stay (fun c v _ z => k c v z) (fun c z => old _ _ z) fun c xs z => old _ _ z
end
/-- C(e), C(value=e): a new error and its dict -/
def tErr (C : Addr) (ta : TE) : TE := fun σ H Q => ta σ H fun v H1 => ∀ d e : Addr, H1 d = none → H1 e = none → d ≠ e → Q (.ref e) (upd (upd H1 d (.xd (vf v))) e (errO e C d))
/-- raise C(e) -/
def tErrR (C : Addr) (ta : TE) : St → Hp → XK → Prop := fun σ H Q => ta σ H fun v H1 => ∀ d : Addr, H1 d = none → Q (.ref C) (some d) (upd H1 d (.xd (vf v)))
section
variable {X : Cx} {C L : Addr} {nm qual : Str} {st : Stmt} {a : Expr} {ta : TE} {p pos kpos : Pos} {k : Nat}
theorem callErr {pins : List (Addr × Obj)} {σ : St} {H : Hp} {s : Shared} {R : Value → Shared → Prop} {E : Value → Shared → Prop} (TL : LineC X.K X.mg L) (T : ErrC X.K X.prog.main.file X.mg L nm qual st C) (hr : Room k X.A) (htop : (X.prog.main.scope.names.lookup ("super" : Str)).isSome = false) (gs : X.mg "super" = none)
    {v : Value} {ps : List Value} {kw : List (Str × Value)} (hv : Hands v ps kw) (I : Inv X pins σ H s)
    (hq : ∀ h' tk e d, ErrMade s.heap h' e C d v → R (.ref e) { s with heap := h', toks := tk }) : wpAny (model X.prog X.w) X.A (call (.ref C) ps kw) R E s := by
  obtain ⟨mb, hB, hb⟩ := I.mod.blt
  refine wpAny_call (errMade TL T hv htop I.kIn (I.mod.glob.keeps I.bk) gs (hB.keeps I.bk) ((hb _ (by decide)).trans (by decide +kernel)) I.nolimit (by have := hr.dp; omega) fun h' tk e d M => hq h' tk e d M)
theorem errEP {pins : List (Addr × Obj)} {σ : St} {H : Hp} {s : Shared} {h' : Heap} {tk : Nat} {e d : Addr} {v : V} {u : Value} {Q : VK} (I : Inv X pins σ H s) (r : RelV v u) (M : ErrMade s.heap h' e C d u)
    (q : ∀ d e : Addr, H d = none → H e = none → d ≠ e → Q (.ref e) (upd (upd H d (.xd (vf v))) e (errO e C d))) : EP X pins σ Q (.ref e) { s with heap := h', toks := tk } := by
  obtain ⟨t1, ho⟩ := M.obj
  exact ⟨.ref e, _, laid2 (o1 := .xd (vf v)) (o2 := errO e C d) I M.keep M.dbig M.ebig ⟨_, M.ns, fun f => relO_vf r f⟩ (errO_ok ho), rfl, q d e (I.hok.fresh M.dbig) (I.hok.fresh M.ebig) M.ne⟩
/-- C(e) as a value -/
theorem pe_err (TL : LineC X.K X.mg L) (T : ErrC X.K X.prog.main.file X.mg L nm qual st C) (hr : Room k X.A) (htop : (X.prog.main.scope.names.lookup ("super" : Str)).isSome = false) (gs : X.mg "super" = none) (hg : Gl X nm) (he : PE X a ta) (hdb : (nm == ("__debug__" : Str)) = false := by decide)
    (hs : starEach [a] X.env = (false, eval a X.env) :: starEach [] X.env := by rfl) (hpl : (backTo pos (starEach [] X.env)).any (·.1) = false := by rfl) : PE X (.Call (.Name nm p) [a] [] pos) (tErr C ta) := by
  refine ⟨fun pins s σ H Q I h => ?_⟩
  refine wpAny_Call_Name_kw (ld_glob I hg T.gC ?_ hdb)
  refine PySem.W.callWith_K (h₀ := X.base) I.ok.mod.kin T.kp ?_ hs hpl
  rw [hs]
  show wpAny _ _ (spliced ((false, eval a X.env) :: backTo pos (starEach [] X.env))) _ _ s
  refine Calls.spliced_cons (thn (he.run pins s σ H _ I h) fun u s1 ⟨v, H1, I1, r1, q1⟩ => ?_)
  refine Calls.spliced_nil ⟨I1.kIn, ?_⟩
  show wpAny _ _ (call (.ref C) [u]) _ _ _
  exact callErr TL T hr htop gs .pos I1 fun h' tk e d M => errEP I1 r1 M q1
/-- C(value=e) as a value -/
theorem pe_errK (TL : LineC X.K X.mg L) (T : ErrC X.K X.prog.main.file X.mg L nm qual st C) (hr : Room k X.A) (htop : (X.prog.main.scope.names.lookup ("super" : Str)).isSome = false) (gs : X.mg "super" = none) (hg : Gl X nm) (he : PE X a ta) (hdb : (nm == ("__debug__" : Str)) = false := by decide)
    (hall : (backToKw pos (keywordEach [⟨some "value", a, kpos⟩] X.env)).all (·.1.isSome) = true := by rfl) (hks : (backToKw pos (keywordEach [⟨some "value", a, kpos⟩] X.env)).filterMap (·.1) = [("value" : Str)] := by rfl)
    (hpl : ((backTo pos (starEach [] X.env)).any (·.1) || (backToKw pos (keywordEach [⟨some "value", a, kpos⟩] X.env)).any (·.1.isNone)) = false := by rfl) : PE X (.Call (.Name nm p) [] [⟨some "value", a, kpos⟩] pos) (tErr C ta) := by
  refine ⟨fun pins s σ H Q I h => ?_⟩
  refine wpAny_Call_Name_kw (ld_glob I hg T.gC ?_ hdb)
  refine PySem.W.callWith_KW0 (h₀ := X.base) I.ok.mod.kin T.kp hall ?_ hpl
  refine thn ((pk_cons he pk_nil).run pos pins s σ H (fun vs H1 => match vs with | [v] => ∀ d e : Addr, H1 d = none → H1 e = none → d ≠ e → Q (.ref e) (upd (upd H1 d (.xd (vf v))) e (errO e C d)) | _ => False) I h) fun us s1 ⟨vs, H1, I1, r1, q1⟩ => ⟨I1.kIn, ?_⟩
  rw [hks]
  cases r1 with
  | nil => exact q1.elim
  | cons rv rn =>
    cases rn with
    | nil => exact callErr TL T hr htop gs .kw I1 fun h' tk e d M => errEP I1 rv M q1
    | cons _ _ => exact q1.elim
/-- raise C(e): what makes the error -/
theorem pmk_err (TL : LineC X.K X.mg L) (T : ErrC X.K X.prog.main.file X.mg L nm qual st C) (hr : Room k X.A) (htop : (X.prog.main.scope.names.lookup ("super" : Str)).isSome = false) (gs : X.mg "super" = none) (hg : Gl X nm) (he : PE X a ta) (hdb : (nm == ("__debug__" : Str)) = false := by decide)
    (hs : starEach [a] X.env = (false, eval a X.env) :: starEach [] X.env := by rfl) (hpl : (backTo pos (starEach [] X.env)).any (·.1) = false := by rfl) : PMk X (.Call (.Name nm p) [a] [] pos) (tErrR C ta) := by
  intro pins s σ H Q I h
  refine wpAny_Call_Name_kw (ld_glob I hg T.gC ?_ hdb)
  refine PySem.W.callWith_K (h₀ := X.base) I.ok.mod.kin T.kp ?_ hs hpl
  rw [hs]
  show wpAny _ _ (spliced ((false, eval a X.env) :: backTo pos (starEach [] X.env))) _ _ s
  refine Calls.spliced_cons (thn (he.run pins s σ H _ I h) fun u s1 ⟨v, H1, I1, r1, q1⟩ => ?_)
  refine Calls.spliced_nil ⟨I1.kIn, ?_⟩
  show wpAny _ _ (call (.ref C) [u]) _ _ _
  refine callErr TL T hr htop gs .pos I1 fun h' tk e d M => ?_
  obtain ⟨t1, hoe⟩ := M.obj
  have hns := M.ns
  obtain ⟨G', g1, g2⟩ := restrict h' fun b => decide (b ≠ e)
  have gk : ∀ b, b ≠ e → G'.get? b = h'.get? b := fun b hb => g1 b (decide_eq_true hb)
  have ge : G'.get? e = none := g2 e (by simp)
  have old : ∀ b o, s1.heap.get? b = some o → G'.get? b = some o := fun b o q => (gk b (Nat.ne_of_lt (Nat.lt_of_lt_of_le (Heap.lt_size q) M.ebig))).trans (M.keep b o q)
  have ob : ObjOk X.prog X.w (upd H1 d (.xd (vf v))) G' d (.xd (vf v)) := ⟨_, hns.at (fun o q => (gk d M.ne).trans q), fun f => relO_vf r1 f⟩
  have J : Inv X pins σ (upd H1 d (.xd (vf v))) { s1 with heap := G', toks := tk } := I1.laid (t' := tk) old M.dbig ob
  have r : Raises X (.ref C) := raises_own ((T.under _).trans (by rfl)) T.ty
  refine ⟨e, _, _, { s1 with heap := G', toks := tk }, _, .ref C, some d, rfl, J, fun b o q => ?_, ge, hoe, ⟨rfl, rfl⟩, rfl, rfl, ?_, rfl, I1.bare, r, q1 d (I1.hok.fresh M.dbig)⟩
  · by_cases hb : b = e
    · have q' : G'.get? b = some o := q
      rw [hb, ge] at q'
      cases q'
    · exact (gk b hb).symm.trans q
  · rw [upd_ne (Ne.symm M.ne)]
    exact I1.hok.fresh M.ebig
/-- the error's class is asked for -/
theorem kitErr (TL : LineC X.K X.mg L) (T : ErrC X.K X.prog.main.file X.mg L nm qual st C) {x : Addr} {ox : Obj} {od : Option Obj} : PySem.W.KitX X.K (.ref x) (.ref C) (fun h => PySem.W.InstAt h x ox C od) := by
  obtain ⟨cd, e1, e2, e3⟩ := T.chain
  exact PySem.W.kitx_exc (by rw [e1]; rfl) T.ga T.gg ((T.under _).trans (by rfl)) T.ca TL.sp TL.tk ((T.under _).trans (by rfl))
/-- isinstance(e, c), e a made error, c a class of the program (at D) or a built-in one -/
def rIsErr (K : PySem.W.Frag) : List V → Hp → VK → Prop := fun xs H Q => ∃ (e C d : Addr) (v : V) (c : V) (u : Value) (b : Bool), xs = [.ref e, c] ∧ H e = some (errO e C d) ∧ H d = some (.xd (vf v)) ∧ ClsV c u ∧ PySem.W.kitOne K (.ref C) u = some b ∧
  (∃ (file : Str) (mg : Str → Option Value) (L : Addr) (nm qual : Str) (st : Stmt), LineC K mg L ∧ ErrC K file mg L nm qual st C) ∧ Q (.bl b) H
theorem call_isErr : CallR X (.builtin "isinstance") (rIsErr X.K) := by
  intro pins s σ H xs us Q I r h
  obtain ⟨e, C', d, v, c, u, b, rfl, he, hd, hc, hk, ⟨file, mg, L', nm', qual', st', TL, T⟩, q⟩ := h
  obtain ⟨u1, u2, rfl, r1, r2⟩ := vals2 r
  obtain rfl : u1 = Value.ref e := r1
  have e2 := hc.eq r2
  subst e2
  obtain ⟨t1, ho⟩ := errO_at I.hok he
  obtain ⟨mA, hns, _⟩ := (show ∃ mA, s.heap.Ns1 d mA ∧ ∀ f, RelO ((vf v).lookup f) (mA f) from I.hok d _ hd)
  obtain ⟨od, hod, _⟩ := lookIn_ns hns
  obtain ⟨cd, q1, q2, q3⟩ := T.chain
  have Z : PySem.W.KitX X.K (.ref e) (.ref C') (fun h => PySem.W.InstAt h e { cls := .ref C', dict := some d, data := .fields #[.ref t1, .none, .none, .none, .bool false, .none] } C' (some od)) :=
    PySem.W.kitx_exc (by rw [q1]; rfl) T.ga T.gg ((T.under _).trans (by rfl)) T.ca TL.sp TL.tk ((T.under _).trans (by rfl))
  exact PySem.W.kia_one Z I.kIn ⟨ho, rfl, rfl, hod⟩ hk (fun z => nomatch z) fun tk => ⟨.bl b, H, I.tok tk, rfl, q⟩
/-- e.value, e a made error -/
def tErrV (K : PySem.W.Frag) (te : TE) : TE := fun σ H Q => te σ H fun x H1 => ∃ (e C d : Addr) (v : V), x = .ref e ∧ H1 e = some (errO e C d) ∧ H1 d = some (.xd (vf v)) ∧
  (∃ (file : Str) (mg : Str → Option Value) (L : Addr) (nm qual : Str) (st : Stmt), LineC K mg L ∧ ErrC K file mg L nm qual st C) ∧ Q v H1
theorem pe_errV {e : Expr} {te : TE} (he : PE X e te) (hb : attributeBase e "value" X.env (eval e X.env) = eval e X.env := by rfl) : PE X (.Attribute e "value" pos) (tErrV X.K te) := by
  refine ⟨fun pins s σ H Q I h => ?_⟩
  refine attr_of hb (thn (he.run pins s σ H _ I h) fun u s1 hh => ?_)
  obtain ⟨x, H1, I1, rx, e', C', d, v, ex, hoe, hd, ⟨file, mg, L', nm', qual', st', TL, T⟩, q⟩ := hh
  subst ex
  obtain rfl : u = Value.ref e' := rx
  obtain ⟨t1, ho⟩ := errO_at I1.hok hoe
  obtain ⟨mA, hns, hr⟩ := (show ∃ mA, s1.heap.Ns1 d mA ∧ ∀ f, RelO ((vf v).lookup f) (mA f) from I1.hok d _ hd)
  obtain ⟨od, hod, hl⟩ := lookIn_ns hns
  have l : List.lookup ("value" : Str) (vf v) = some v := by simp [List.lookup]
  obtain ⟨u, hu, ru⟩ := RelO.some_of (v := v) (o := mA "value") (by rw [← l]; exact hr "value")
  have J : PySem.W.InstAt s1.heap e' { cls := .ref C', dict := some d, data := .fields #[.ref t1, .none, .none, .none, .bool false, .none] } C' (some od) := ⟨ho, rfl, rfl, hod⟩
  obtain ⟨cd, q1, q2, q3⟩ := T.chain
  have hdict : PySem.W.hasDictIn X.K C' = true := by
    unfold PySem.W.hasDictIn
    rw [q1]
    simpa using q3
  exact HandSPX.exc_get I1.kIn J T.ga T.gg ((T.under _).trans (by rfl)) (PySem.W.findObj_own hdict T.nv rfl (by rw [hl, hu])) (handed_of ru) ⟨v, H1, I1.tok _, ru, q⟩
end
end Lx
namespace Lx
open PySem PySem.Spec L2 PyProof.Rows
/-! ### min of a tuple of ints -/
section
variable {prog : Program} {w : World} {A : Around} {E : Value → Shared → Prop} {s : Shared} {l : Addr}
variable {its : List Value} {ns : List Int} {Q : Value → Shared → Prop}
theorem min_rawT (hh : A.handled = none) (hl : s.heap.IsTuple l its.toArray) (hi : IntsAre its ns) (hne : 0 < ns.length)
    (h : ∀ h' tk M t', (∀ b o, s.heap.get? b = some o → h'.get? b = some o) → M ∈ ns → (∀ a, a ∈ ns → M ≤ a) → Q (.int M t') { s with heap := h', toks := tk }) : wpAny (model prog w) A (call (.builtin "min") [.ref l]) Q E s := by
  obtain ⟨xs, e⟩ := hi.allInts.items
  have hn : numsOf (intItems xs).toList = ns := by rw [← e]; exact hi.numsOf
  rw [nums_intItems] at hn
  subst hn
  rw [e] at hl
  have hsz : 0 < xs.size := by simpa using hne
  have hlt : l < s.heap.objs.size := by obtain ⟨_, e, _⟩ := hl; exact Heap.lt_size e
  refine call_min_walk (wpAny_pyIter_tuple hl ?_)
  refine ⟨_, _, _, _, _, _, _, rfl, Walks.tuple (A := A.in1) hh _ l (Nat.ne_of_lt hlt) (intItems xs), ⟨⟨_, Heap.get?_push_size _ rfl, rfl, rfl⟩, hl.at fun o e => Heap.get?_push_of_some _ e⟩, fun b hb => ?_, by simpa [intItems] using hsz, CmpOf.ints_lt (numAt xs) (fun _ _ => intItems_at), fun v h' tk hP hk => ?_⟩
  · show b < (s.heap.push _).objs.size
    rw [Heap.size_push]
    rcases List.mem_cons.mp hb with rfl | hb
    · exact Nat.lt_succ_self _
    · rcases List.mem_cons.mp hb with rfl | hb
      · exact Nat.lt_succ_of_lt hlt
      · cases hb
  · obtain ⟨t, rfl⟩ := intItems_at hP
    obtain ⟨h1, h2⟩ := argBest_lt (numAt xs) (xs.size - 1)
    have hz : (intItems xs).size = xs.size := by simp [intItems]
    refine h h' tk _ t (fun b o e => hk b o (fun hm => Nat.lt_irrefl _ ((List.mem_singleton.mp hm) ▸ Heap.lt_size e)) (Heap.get?_push_of_some _ e)) ?_ fun a ha => ?_
    · rw [numAt_eq]; exact PySem.getD_mem (by rw [List.length_map, Array.length_toList, hz]; omega)
    · obtain ⟨j, hj, rfl⟩ := mem_getD ha
      rw [List.length_map, Array.length_toList] at hj
      rw [← numAt_eq, hz]; exact h2 j (by omega)
end
def rMinT (K : PySem.W.Frag) : List V → Hp → VK → Prop := fun vs H Q => ∃ (a : Addr) (ns : List Int), vs = [V.ref a] ∧ SqT K H a (ns.map V.int) ∧ 0 < ns.length ∧ ∀ m, m ∈ ns → (∀ y, y ∈ ns → m ≤ y) → Q (.int m) H
theorem call_minT {X : Cx} (hc : X.calm = true) : CallR X (.builtin "min") (rMinT X.K) := by
  intro pins s σ H vs us Q I r h
  obtain ⟨a, ns, rfl, hs, hne, q⟩ := h
  obtain ⟨its, rv, hl, _⟩ := I.tuple hs
  rw [Vals.ref1 r]
  exact min_rawT (I.ok.hd hc) (by obtain ⟨o, h1, h2, n, h3⟩ := hl; exact ⟨o, h1, h2, n, h3⟩) rv.ints hne fun h' tk m t' hk h1 h2 => ⟨.int _, H, I.kept hk, ⟨_, rfl⟩, q m h1 h2⟩
/-! ### get of a written dict -/
def tKGet (K : PySem.W.Frag) (w : World) (td ty : TE) : TE := fun σ H Q => td σ H fun x H1 => ∃ a es n, x = .ref a ∧ KDict K w a es n ∧ ty σ H1 fun y H2 => ∃ (z : Str) (r : Option Value) (v : V), y = .str z ∧ PySem.W.nsIn K a z = some r ∧ RelV v (r.getD .none) ∧ Q v H2
theorem pe_kget {X : Cx} {o e : Expr} {apos cpos : Pos} {td ty : TE} (ho : PE X o td) (he : PE X e ty) (m : M1 X o "get" apos e cpos) : PE X (.Call (.Attribute o "get" apos) [e] [] cpos) (tKGet X.K X.w td ty) := by
  refine ⟨fun pins s σ H Q I h => ?_⟩
  refine wpAny_Call_method m.base m.few m.line PySem.F.plainAttrs_dict PySem.F.slot_dict_get PySem.F.type_dict_get (thn (ho.run pins s σ H _ I h) fun u s1 ⟨x, H1, I1, rx, a, es, n, ex, D, q1⟩ => ?_)
  subst ex
  obtain rfl : u = Value.ref a := rx
  have hm1 := PySem.W.mapOf_K (prog := X.prog) (w := X.w) I1.kIn D.at_ D.lit
  refine ⟨hm1.typeIs, fun b q => ?_, ?_⟩
  · cases q
    exact ⟨_, I1.kIn _ _ D.at_, rfl⟩
  rw [m.trees]
  refine Calls.callWith_builtin rfl (Calls.evalArgs_plain (Calls.spliced_cons (thn (he.run pins s1 σ H1 _ I1 q1) fun iv s2 ⟨y, H2, I2, ry, z, r, v, ey, e, rv, q2⟩ => Calls.spliced_nil ?_)))
  subst ey
  obtain ⟨t, rfl⟩ := ry
  have hm2 := PySem.W.mapOf_K (prog := X.prog) (w := X.w) I2.kIn D.at_ D.lit
  refine call_meetsIn PySem.F.slot_dict_get hm2.typeIs PySem.F.entry_dict_get (PySem.F.args_dict_get_2 _ _) (meets_dict_get (strKind X.prog X.w) a (strKind_is X.prog X.w z t) D.low) ⟨_, hm2, ?_⟩
  rw [PySem.W.find_K D.at_ e]
  exact ⟨v, H2, I2.tok _, rv, q2⟩
end Lx
namespace Lx
open PySem PySem.Spec L2
/-! ### enumerate(text) -/
/-- each sign of x with its place, in a new pair -/
def Itx (x : Str) : It :=
  ⟨fun i _ => i < x.cps.size, fun i H v H' => ∃ T c, v = .ref T ∧ H T = none ∧ H' = upd H T (.tup [.int (i : Nat), .str ⟨#[c]⟩]) ∧ x.cps[i]? = some c, fun i _ => x.cps.size ≤ i⟩
theorem turn_enumS {P : Program} {w : World} {K : PySem.W.Frag} {elts : List Expr} {kk : Nat} {tpos : Pos} (x : Str) (t : Tok) (e it : Addr) :
    Turn P w K (.Tuple elts kk tpos) (Itx x) [e, it] e (fun i h => (∃ old, IsEnum h e it ((i : Nat) : Int) old) ∧ h.IsStrIter it (strIterType x) x t i ∧ e ≠ it ∧ i ≤ x.cps.size) where
  mem := by simp
  obj := fun i h st b hb => by
    obtain ⟨⟨old, he⟩, ⟨o, ho, hc, hd⟩, _, _⟩ := st
    have e' : b = e ∨ b = it := by simpa using hb
    rcases e' with z | z
    · rw [z]; exact ⟨_, he, fun v q => nomatch q⟩
    · rw [z]; exact ⟨o, ho, fun v q => by rw [hd] at q; cases q⟩
  keep := fun i h h' st k => by
    obtain ⟨⟨old, he⟩, ⟨o, ho, r⟩, hne, hle⟩ := st
    exact ⟨⟨old, k e (by simp) _ he⟩, ⟨o, k it (by simp) o ho, r⟩, hne, hle⟩
  item := by
    intro X hP hw hK hc i pins s σ H E I hf st hg
    subst hP hw hK
    obtain ⟨⟨old, he⟩, hit, hne, hle⟩ := st
    have hlt : i < x.cps.size := hg
    have hel : e < s.heap.objs.size := Heap.lt_size he
    have hil : it < s.heap.objs.size := by obtain ⟨_, q, _⟩ := hit; exact Heap.lt_size q
    refine wpAny_pyNext_enum_itemD (Draws.text (A := X.A.in1) (I.ok.hd hc) it x t) he hit hlt hne (by simpa using hne) fun u h' tk hP ho hit' hT hsz hk => ?_
    obtain ⟨c, tc, hcx, rfl⟩ := hP
    refine ⟨_, rfl, wpAny_letOwnedTupleGo_enum (s := { s with heap := h', toks := tk + 1 }) ho fun h'' he' sb => ?_⟩
    have hT2 : h''.get? s.heap.objs.size = some { cls := .type "tuple", data := .seq #[.int i tk, .str ⟨#[c]⟩ tc] } := (sb.2 _ (Nat.ne_of_gt hel)).trans hT
    have new : ObjOk X.prog X.w (upd H s.heap.objs.size (.tup [.int (i : Nat), .str ⟨#[c]⟩])) h'' s.heap.objs.size (.tup [.int (i : Nat), .str ⟨#[c]⟩]) :=
      ⟨by show 2 ≤ sizeLine; decide, [.int i tk, .str ⟨#[c]⟩ tc], .cons ⟨_, rfl⟩ (.cons ⟨_, rfl⟩ .nil), ⟨_, hT2, rfl, _, rfl⟩⟩
    have I1 : Inv X pins σ (upd H s.heap.objs.size (.tup [.int (i : Nat), .str ⟨#[c]⟩])) { s with heap := h'', toks := tk + 1 } :=
      I.turnedNew (ch := [e, it]) (fun b ob hb q => (sb.2 b (fun z => hb (by simp [z]))).trans (hk b ob (fun z => hb (by simp [z])) (fun z => hb (by simp [z])) q)) hf (Nat.le_refl _) new
    refine ⟨.ref s.heap.objs.size, _, I1, rfl, ⟨_, c, rfl, I.hok.fresh (Nat.le_refl _), rfl, hcx⟩, ⟨⟨.str ⟨#[c]⟩ tc, ?_⟩, ?_, hne, hlt⟩, fun b hb => ?_⟩
    · have e1 : ((i + 1 : Nat) : Int) = (i : Int) + 1 := by omega
      rw [e1]; exact he'
    · obtain ⟨o, ho2, r⟩ := hit'
      exact ⟨o, (sb.2 it (Ne.symm hne)).trans ho2, r⟩
    · have hb' : b < s.heap.objs.size := by
        have e' : b = e ∨ b = it := by simpa using hb
        rcases e' with z | z
        · rw [z]; exact hel
        · rw [z]; exact hil
      rw [upd_ne (Nat.ne_of_lt hb')]
      exact (hf b hb).1
  done := by
    intro X hP hw hK hc i pins s σ H E I hf st hg
    subst hP hw hK
    obtain ⟨⟨old, he⟩, hit, hne, hle⟩ := st
    obtain ⟨f0, f1, f2, f3, f4, f5⟩ := hf it (by simp)
    have e1 : i = x.cps.size := Nat.le_antisymm hle hg
    subst e1
    exact wpAny_pyNext_enum_endD (Draws.text (A := X.A.in1) (I.ok.hd hc) it x t) he hit fun h' eb => ⟨rfl, I.turned (t' := s.toks) (fun b o hb q => eb b o hb q) f0 f1 f3 f4 f5⟩
  self := fun A i s Q E st h => let ⟨⟨_, he⟩, _⟩ := st; PySem.wpAny_pyIter_enum he h
def iEnumS (ta : TA) : TI := fun σ H R => ta σ H fun vs H1 => ∃ x, vs = [.str x] ∧ R (Itx x) H1
theorem pi_enumS {X : Cx} {e : Expr} {ta : TA} {p pos tpos : Pos} {elts : List Expr} {kk : Nat} (hg : Gl X "enumerate") (hm : X.mg "enumerate" = none) (ha : PA X [e] ta) (hs : starEach [e] X.env = [(false, eval e X.env)] := by rfl) :
    PI X (.Tuple elts kk tpos) (.Call (.Name "enumerate" p) [e] [] pos) (iEnumS ta) := by
  refine ⟨fun pins s σ H R I h => ?_⟩
  refine PyProof.Rows.Call_ (ld_blt I hg hm PyProof.Rows.boot_enumerate (PyProof.Rows.callWith_type1 (thn (ha.run pos pins s σ H _ I h) fun us s1 ⟨vs, H1, I1, r1, q1⟩ => ?_) hs rfl))
  obtain ⟨x, ex, q⟩ := q1
  subst ex
  cases r1 with
  | cons r rr =>
    cases rr
    obtain ⟨t, rfl⟩ := r
    refine call_enumerate_str fun h' he hit hsz hk => PySem.wpAny_pyIter_enum he ?_
    have I2 : Inv X pins σ H1 { s1 with heap := h' } := I1.kept (t' := s1.toks) hk
    refine ⟨s1.heap.objs.size + 1, [s1.heap.objs.size + 1, s1.heap.objs.size], _, _, H1, rfl, I2, turn_enumS x t (s1.heap.objs.size + 1) s1.heap.objs.size, ⟨⟨.none, he⟩, hit, Nat.succ_ne_self _, Nat.zero_le _⟩, fun b hb => ?_, q⟩
    have e' : b = s1.heap.objs.size + 1 ∨ b = s1.heap.objs.size := by simpa using hb
    have hle : s1.heap.objs.size ≤ b := by
      rcases e' with z | z
      · rw [z]; exact Nat.le_add_right _ _
      · rw [z]; exact Nat.le_refl _
    exact I1.fpOk hle (I1.hok.fresh hle)
theorem walk_enumS {z : Str} : Walk (Itx z) z.cps.size (fun _ => True) (YPair (fun i => some (.int (i : Nat))) (fun i => z.cps[i]?.map fun c => V.str ⟨#[c]⟩)) :=
  ⟨fun _ _ hi _ => hi, fun _ _ => Nat.le_refl _, fun i H v H' _ _ y => by
    obtain ⟨T, c, h1, h2, h3, h4⟩ := y
    exact ⟨T, .int (i : Nat), .str ⟨#[c]⟩, h1, h2, h3, rfl, by simp [h4]⟩⟩
end Lx
namespace Lx
open PySem PySem.Spec L2
/-! ### sizes of numbers -/
def Sm (n : Nat) (x : Int) : Prop := x.natAbs < 2 ^ n
theorem Sm.mono {n m : Nat} {x : Int} (h : Sm n x) (k : n ≤ m) : Sm m x := Nat.lt_of_lt_of_le h (Nat.pow_le_pow_right (by decide) k)
theorem Sm.add {n : Nat} {x y : Int} (h : Sm n x) (k : Sm n y) : Sm (n + 1) (x + y) := by
  unfold Sm at *
  have := Nat.pow_succ 2 n
  omega
theorem Sm.mul {n m : Nat} {x y : Int} (h : Sm n x) (k : Sm m y) : Sm (n + m) (x * y) := by
  unfold Sm at *
  rw [Int.natAbs_mul, Nat.pow_add]
  exact Nat.mul_lt_mul'' h k
theorem Sm.of_le {n : Nat} {x y : Int} (h0 : 0 ≤ x) (h1 : x ≤ y) (k : Sm n y) : Sm n x := by
  unfold Sm at *
  omega
/-! ### forms -/
inductive Fm
  | keep (b a : Int)
  | lf (b a k c : Int)
  | cr (b a k : Int)
namespace Fm
def vs : Fm → List V
  | keep b a => [.str "keep", .int b, .int a]
  | lf b a k c => [.str "lf", .int b, .int a, .int k, .int c]
  | cr b a k => [.str "cr", .int b, .int a, .int k]
def nm : Fm → Str
  | keep _ _ => "keep"
  | lf _ _ _ _ => "lf"
  | cr _ _ _ => "cr"
def b : Fm → Int
  | keep b _ => b
  | lf b _ _ _ => b
  | cr b _ _ => b
def a : Fm → Int
  | keep _ a => a
  | lf _ a _ _ => a
  | cr _ a _ => a
/-- the number of ^ in front of a break with j of them -/
def after (f : Fm) (j : Int) : Int := (if j - f.b > 0 then j - f.b else 0) + f.a
def ahead (b' a' : Int) : Fm → Fm
  | keep _ _ => keep b' a'
  | lf _ _ k c => lf b' a' k c
  | cr _ _ k => cr b' a' k
def both : Fm → Fm → Fm
  | keep b a, g => ahead (b + (if g.b - a > 0 then g.b - a else 0)) ((if a - g.b > 0 then a - g.b else 0) + g.a) g
  | lf b a k c, keep b' a' => lf b a k (after (keep b' a') c)
  | cr b a k, keep _ _ => cr b a k
  | lf b a k c, lf b' a' k' c' => lf b a (k * (after (lf b' a' k' c') c + 1) * k') c'
  | lf b a k c, cr b' a' k' => cr b a (k * (after (cr b' a' k') c + 1) * k')
  | cr b a k, lf _ _ k' c' => lf b a (k * 1 * k') c'
  | cr b a k, cr _ _ k' => cr b a (k * 1 * k')
/-- a form, its numbers below 2 ^ n -/
def Ok (n : Nat) : Fm → Prop
  | keep b a => 0 ≤ b ∧ 0 ≤ a ∧ Sm n b ∧ Sm n a
  | lf b a k c => 0 ≤ b ∧ 0 ≤ a ∧ 0 < k ∧ 0 ≤ c ∧ Sm n b ∧ Sm n a ∧ Sm n k ∧ Sm n c
  | cr b a k => 0 ≤ b ∧ 0 ≤ a ∧ 0 < k ∧ Sm n b ∧ Sm n a ∧ Sm n k
def nums : Fm → List Int
  | keep b a => [b, a]
  | lf b a k c => [b, a, k, c]
  | cr b a k => [b, a, k]
theorem Ok.mono {n m : Nat} (h : n ≤ m) : ∀ {f : Fm}, Ok n f → Ok m f
  | keep _ _, ⟨h1, h2, h3, h4⟩ => ⟨h1, h2, h3.mono h, h4.mono h⟩
  | lf _ _ _ _, ⟨h1, h2, h3, h4, h5, h6, h7, h8⟩ => ⟨h1, h2, h3, h4, h5.mono h, h6.mono h, h7.mono h, h8.mono h⟩
  | cr _ _ _, ⟨h1, h2, h3, h4, h5, h6⟩ => ⟨h1, h2, h3, h4.mono h, h5.mono h, h6.mono h⟩
theorem Ok.b0 {n : Nat} : ∀ {f : Fm}, Ok n f → 0 ≤ f.b ∧ Sm n f.b
  | keep _ _, h => ⟨h.1, h.2.2.1⟩
  | lf _ _ _ _, h => ⟨h.1, h.2.2.2.2.1⟩
  | cr _ _ _, h => ⟨h.1, h.2.2.2.1⟩
theorem Ok.a0 {n : Nat} : ∀ {f : Fm}, Ok n f → 0 ≤ f.a ∧ Sm n f.a
  | keep _ _, h => ⟨h.2.1, h.2.2.2⟩
  | lf _ _ _ _, h => ⟨h.2.1, h.2.2.2.2.2.1⟩
  | cr _ _ _, h => ⟨h.2.1, h.2.2.2.2.1⟩
theorem after_ok {n : Nat} {f : Fm} (h : Ok n f) {j : Int} (h0 : 0 ≤ j) (hj : Sm n j) : 0 ≤ after f j ∧ Sm (n + 1) (after f j) := by
  have hb := h.b0
  have ha := h.a0
  unfold after
  unfold Sm at *
  have := Nat.pow_succ 2 n
  split <;> omega
theorem vs1 (f : Fm) : f.vs[1]? = some (.int f.b) := by cases f <;> rfl
theorem vs2 (f : Fm) : f.vs[2]? = some (.int f.a) := by cases f <;> rfl
theorem vs0 (f : Fm) : f.vs[0]? = some (.str f.nm) := by cases f <;> rfl
end Fm
def FmAt (K : PySem.W.Frag) (H : Hp) (x : V) (f : Fm) : Prop := ∃ p, x = .ref p ∧ SqT K H p f.vs
theorem sameT {K : PySem.W.Frag} {H H' : Hp} {a : Addr} {xs : List V} (e : Same H H') (h : SqT K H a xs) : SqT K H' a xs := by
  rcases h with (h | ⟨o, h⟩) | h
  · exact .inl (.inl (e _ _ h))
  · exact .inl (.inr ⟨o, e _ _ h⟩)
  · exact .inr h
theorem FmAt.same {K : PySem.W.Frag} {H H' : Hp} {x : V} {f : Fm} (e : Same H H') : FmAt K H x f → FmAt K H' x f := fun ⟨p, h1, h2⟩ => ⟨p, h1, sameT e h2⟩
/-! ### runs -/
/-- a group: a tuple that is tracked -/
def PrAt (H : Hp) (v : V) (x : Int × Int) : Prop := ∃ p, v = .ref p ∧ H p = some (.tup [.int x.1, .int x.2])
inductive Prs (K : PySem.W.Frag) (H : Hp) : List V → List (Int × Int) → Prop
  | nil : Prs K H [] []
  | cons {v : V} {vs : List V} {x : Int × Int} {xs : List (Int × Int)} : PrAt H v x → Prs K H vs xs → Prs K H (v :: vs) (x :: xs)
theorem Prs.same {K : PySem.W.Frag} {H H' : Hp} (e : Same H H') : ∀ {vs : List V} {gs : List (Int × Int)}, Prs K H vs gs → Prs K H' vs gs
  | _, _, .nil => .nil
  | _, _, .cons ⟨p, h1, h2⟩ t => .cons ⟨p, h1, e _ _ h2⟩ (t.same e)
theorem Prs.len {K : PySem.W.Frag} {H : Hp} : ∀ {vs : List V} {gs : List (Int × Int)}, Prs K H vs gs → vs.length = gs.length
  | _, _, .nil => rfl
  | _, _, .cons _ t => by rw [List.length_cons, List.length_cons, t.len]
theorem Prs.get {K : PySem.W.Frag} {H : Hp} : ∀ {vs : List V} {gs : List (Int × Int)}, Prs K H vs gs → ∀ {i : Nat} {v : V}, vs[i]? = some v → ∃ x, gs[i]? = some x ∧ PrAt H v x
  | _, _, .nil, i, v, h => by simp at h
  | _, _, .cons h1 t, 0, v, h => by
    have e := Option.some.inj h
    subst e
    exact ⟨_, rfl, h1⟩
  | _, _, .cons h1 t, i + 1, v, h => t.get (i := i) h
theorem Prs.append {K : PySem.W.Frag} {H : Hp} : ∀ {vs ws : List V} {gs hs : List (Int × Int)}, Prs K H vs gs → Prs K H ws hs → Prs K H (vs ++ ws) (gs ++ hs)
  | _, _, _, _, .nil, h => h
  | _, _, _, _, .cons a t, h => .cons a (t.append h)
def GsAt (K : PySem.W.Frag) (H : Hp) (l : Addr) (gs : List (Int × Int)) : Prop := ∃ xs, SqL K H l xs ∧ Prs K H xs gs
def RnAt (K : PySem.W.Frag) (H : Hp) (x : V) (l : Addr) (r : List (Int × Int) × Int) : Prop := ∃ p, x = .ref p ∧ SqT K H p [.ref l, .int r.2] ∧ GsAt K H l r.1
theorem GsAt.same {K : PySem.W.Frag} {H H' : Hp} {l : Addr} {gs : List (Int × Int)} (e : Same H H') : GsAt K H l gs → GsAt K H' l gs := fun ⟨xs, h1, h2⟩ => ⟨xs, e.seq h1, h2.same e⟩
theorem RnAt.same {K : PySem.W.Frag} {H H' : Hp} {x : V} {l : Addr} {r : List (Int × Int) × Int} (e : Same H H') : RnAt K H x l r → RnAt K H' x l r := fun ⟨p, h1, h2, h3⟩ => ⟨p, h1, sameT e h2, h3.same e⟩
/-- groups as the document wants them, numbers below 2 ^ n -/
def GsOk (n : Nat) (gs : List (Int × Int)) : Prop := ∀ (i : Nat) (x : Int × Int), gs[i]? = some x → 1 ≤ x.1 ∧ 0 ≤ x.2 ∧ Sm n x.1 ∧ Sm n x.2 ∧ ∀ y : Int × Int, gs[i + 1]? = some y → y.2 ≠ x.2
structure RnOk (n : Nat) (r : List (Int × Int) × Int) : Prop where
  gs : GsOk n r.1
  rest : 0 ≤ r.2 ∧ Sm n r.2
  len : r.1.length ≤ 1000
def addTo (acc : List (Int × Int)) (x : Int × Int) : List (Int × Int) := match acc.getLast? with
  | some y => if y.2 = x.2 then acc.dropLast ++ [(y.1 + x.1, x.2)] else acc ++ [x]
  | none => acc ++ [x]
def merged (gs : List (Int × Int)) : List (Int × Int) := gs.foldl addTo []
def moved (f : Fm) (gs : List (Int × Int)) : List (Int × Int) := gs.map fun x => (x.1, f.after x.2)
def total (gs : List (Int × Int)) : Int := (gs.map fun x => x.1 * (x.2 + 1)).sum
def units (r : List (Int × Int) × Int) (f : Fm) : Int := total (moved f r.1) + r.2
def runAfter (r : List (Int × Int) × Int) : Fm → List (Int × Int) × Int
  | .keep b a => (merged (moved (.keep b a) r.1), r.2)
  | .lf b a k c => if k * units r (.lf b a k c) = 0 then ([], 0) else ([(k * units r (.lf b a k c), c)], 0)
  | .cr b a k => ([], k * units r (.cr b a k))
end Lx
namespace Lw
open PySem PySem.Spec L2 Lx
def topS (i : Nat) : Stmt := PySem.Challenge.pw_lineends_k66_whole_powers_by_copies.main.body.getD i (.Pass ⟨0, 0, 0, 0⟩)
abbrev sWall : Stmt := topS 0
abbrev sChkChain : Stmt := topS 11
abbrev sChkRun : Stmt := topS 12
abbrev sChkForm : Stmt := topS 13
abbrev sIsForm : Stmt := topS 14
abbrev sNotNeg : Stmt := topS 15
abbrev sFoc : Stmt := topS 19
abbrev sBoth : Stmt := topS 20
abbrev sAftKeep : Stmt := topS 21
abbrev sBefKeep : Stmt := topS 22
abbrev sOne : Stmt := topS 23
abbrev sSigns : Stmt := topS 24
abbrev sRunAft : Stmt := topS 25
abbrev sRou : Stmt := topS 26
abbrev sUnits : Stmt := topS 27
abbrev sUog : Stmt := topS 28
abbrev sMerged : Stmt := topS 29
abbrev sForm : Stmt := topS 31
abbrev sApply : Stmt := topS 32
abbrev sJoined : Stmt := topS 33
abbrev sPowered : Stmt := topS 34
abbrev sLBag : Stmt := topS 38
abbrev sLDraw : Stmt := topS 39
abbrev sLChain : Stmt := topS 40
abbrev sLReduced : Stmt := topS 41
abbrev sLRun : Stmt := topS 42
abbrev sLWanted : Stmt := topS 43
abbrev sLAnyWanted : Stmt := topS 44
abbrev sLUnits : Stmt := topS 45
abbrev sLAfter : Stmt := topS 46
abbrev sLByDepot : Stmt := topS 47
abbrev sLaw : Stmt := topS 48
abbrev sDepot___init__ : Stmt := inClass (topS 36) 0
abbrev sDepot_copy : Stmt := inClass (topS 36) 1
abbrev sDepot_form_of : Stmt := inClass (topS 36) 2
abbrev sDepot_way : Stmt := inClass (topS 36) 3
abbrev sDepot_are_same : Stmt := inClass (topS 36) 4
abbrev sDepot_names : Stmt := inClass (topS 36) 5
abbrev sDepot_groups : Stmt := inClass (topS 36) 6
end Lw
namespace Lx
open PySem PySem.Spec L2
/-! ### one form after another -/
theorem addTo_none (x : Int × Int) : addTo [] x = [x] := rfl
theorem addTo_end (a : List (Int × Int)) (y x : Int × Int) : addTo (a ++ [y]) x = if y.2 = x.2 then a ++ [(y.1 + x.1, x.2)] else a ++ [y] ++ [x] := by
  unfold addTo
  rw [List.getLast?_concat]
  simp
theorem ends {α : Type} : ∀ l : List α, l = [] ∨ ∃ a x, l = a ++ [x]
  | [] => .inl rfl
  | x :: l => by
    rcases ends l with rfl | ⟨a, y, rfl⟩
    · exact .inr ⟨[], x, rfl⟩
    · exact .inr ⟨x :: a, y, rfl⟩
theorem merged_snoc (xs : List (Int × Int)) (x : Int × Int) : merged (xs ++ [x]) = addTo (merged xs) x := by
  unfold merged
  rw [List.foldl_append]
  rfl
theorem addTo_addTo (a : List (Int × Int)) (m m' j : Int) : addTo (addTo a (m, j)) (m', j) = addTo a (m + m', j) := by
  rcases ends a with rfl | ⟨b, z, rfl⟩
  · show addTo ([] ++ [(m, j)]) (m', j) = [(m + m', j)]
    rw [addTo_end, if_pos rfl]
    rfl
  · rw [addTo_end, addTo_end]
    by_cases e : z.2 = j
    · rw [if_pos e, if_pos e, addTo_end, if_pos rfl, Int.add_assoc]
    · rw [if_neg e, if_neg e, addTo_end, if_pos rfl]
def on (h : Int → Int) (gs : List (Int × Int)) : List (Int × Int) := gs.map fun x => (x.1, h x.2)
theorem on_snoc (h : Int → Int) (a : List (Int × Int)) (x : Int × Int) : on h (a ++ [x]) = on h a ++ [(x.1, h x.2)] := by
  unfold on
  rw [List.map_append]
  rfl
theorem merged_on_addTo (h : Int → Int) (a : List (Int × Int)) (x : Int × Int) : merged (on h (addTo a x)) = addTo (merged (on h a)) (x.1, h x.2) := by
  rcases ends a with rfl | ⟨b, y, rfl⟩
  · rfl
  · rw [addTo_end]
    by_cases e : y.2 = x.2
    · rw [if_pos e, on_snoc, merged_snoc, on_snoc, merged_snoc, ← e, addTo_addTo]
    · rw [if_neg e, on_snoc, merged_snoc]
theorem merged_on (h : Int → Int) (n : Nat) : ∀ xs : List (Int × Int), xs.length = n → merged (on h (merged xs)) = merged (on h xs) := by
  induction n with
  | zero =>
    intro xs hx
    rw [List.eq_nil_of_length_eq_zero hx]
    rfl
  | succ n ih =>
    intro xs hx
    rcases ends xs with rfl | ⟨a, x, rfl⟩
    · rfl
    · rw [merged_snoc, merged_on_addTo, ih a (by simpa using hx), on_snoc, merged_snoc]
theorem total_snoc (a : List (Int × Int)) (x : Int × Int) : total (a ++ [x]) = total a + x.1 * (x.2 + 1) := by
  unfold total
  rw [List.map_append, List.sum_append]
  simp
theorem total_addTo (h : Int → Int) (a : List (Int × Int)) (x : Int × Int) : total (on h (addTo a x)) = total (on h a) + x.1 * (h x.2 + 1) := by
  rcases ends a with rfl | ⟨b, y, rfl⟩
  · show total ([] ++ [(x.1, h x.2)]) = total [] + _
    rw [total_snoc]
  · rw [addTo_end]
    by_cases e : y.2 = x.2
    · rw [if_pos e, on_snoc, total_snoc, on_snoc, total_snoc, e, Int.add_mul, Int.add_assoc]
    · rw [if_neg e, on_snoc, total_snoc]
theorem total_on (h : Int → Int) (n : Nat) : ∀ xs : List (Int × Int), xs.length = n → total (on h (merged xs)) = total (on h xs) := by
  induction n with
  | zero =>
    intro xs hx
    rw [List.eq_nil_of_length_eq_zero hx]
    rfl
  | succ n ih =>
    intro xs hx
    rcases ends xs with rfl | ⟨a, x, rfl⟩
    · rfl
    · rw [merged_snoc, total_addTo, ih a (by simpa using hx), on_snoc, total_snoc]
theorem moved_on (f : Fm) (gs : List (Int × Int)) : moved f gs = on f.after gs := rfl
theorem on_on (h h' : Int → Int) (gs : List (Int × Int)) : on h' (on h gs) = on (fun j => h' (h j)) gs := by
  unfold on
  rw [List.map_map]
  rfl
theorem posI (x : Int) : 0 ≤ (if x > 0 then x else 0) ∧ ((if x > 0 then x else 0) = x ∨ ((if x > 0 then x else 0) = 0 ∧ x ≤ 0)) := by
  by_cases h : x > 0
  · rw [if_pos h]; omega
  · rw [if_neg h]; omega
theorem after_both (b a : Int) (g : Fm) (j : Int) : g.after ((Fm.keep b a).after j) = ((Fm.keep b a).both g).after j := by
  have e : ∀ b' a' : Int, (if (if j - b > 0 then j - b else 0) + a - b' > 0 then (if j - b > 0 then j - b else 0) + a - b' else 0) + a' =
      (if j - (b + (if b' - a > 0 then b' - a else 0)) > 0 then j - (b + (if b' - a > 0 then b' - a else 0)) else 0) + ((if a - b' > 0 then a - b' else 0) + a') := by
    intro b' a'
    have p1 := posI (j - b)
    have p2 := posI (b' - a)
    have p3 := posI (a - b')
    generalize (if j - b > 0 then j - b else 0) = A at *
    generalize (if b' - a > 0 then b' - a else 0) = B at *
    generalize (if a - b' > 0 then a - b' else 0) = C at *
    have p4 := posI (A + a - b')
    have p5 := posI (j - (b + B))
    generalize (if A + a - b' > 0 then A + a - b' else 0) = D at *
    generalize (if j - (b + B) > 0 then j - (b + B) else 0) = E at *
    omega
  cases g with
  | keep b' a' => exact e b' a'
  | lf b' a' k c => exact e b' a'
  | cr b' a' k => exact e b' a'
theorem units_both (r : List (Int × Int) × Int) (b a : Int) (g : Fm) : units (runAfter r (.keep b a)) g = units r ((Fm.keep b a).both g) := by
  show total (moved g (merged (moved (.keep b a) r.1))) + r.2 = total (moved _ r.1) + r.2
  rw [moved_on, total_on _ _ _ rfl, moved_on, on_on, moved_on]
  have e : (fun j => g.after ((Fm.keep b a).after j)) = ((Fm.keep b a).both g).after := funext fun j => after_both b a g j
  rw [e]
theorem units_one (n c : Int) (g : Fm) : units ([(n, c)], 0) g = n * (g.after c + 1) := by
  show total ([] ++ [(n, g.after c)]) + 0 = _
  rw [total_snoc]
  show 0 + n * (g.after c + 1) + 0 = _
  omega
theorem units_none (n : Int) (g : Fm) : units ([], n) g = n := by
  show (0 : Int) + n = n
  omega
theorem runAfter_both (r : List (Int × Int) × Int) (f g : Fm) : runAfter (runAfter r f) g = runAfter r (f.both g) := by
  cases f with
  | keep b a =>
    have hu := units_both r b a g
    cases g with
    | keep b' a' =>
      show (merged (moved (.keep b' a') (merged (moved (.keep b a) r.1))), r.2) = (merged (moved _ r.1), r.2)
      rw [moved_on, merged_on _ _ _ rfl, moved_on, on_on, moved_on]
      have e : (fun j => (Fm.keep b' a').after ((Fm.keep b a).after j)) = ((Fm.keep b a).both (.keep b' a')).after := funext fun j => after_both b a _ j
      rw [e]
      rfl
    | lf b' a' k' c' =>
      show (if k' * units (runAfter r (.keep b a)) (.lf b' a' k' c') = 0 then (([] : List (Int × Int)), (0 : Int)) else ([(k' * units (runAfter r (.keep b a)) (.lf b' a' k' c'), c')], 0)) = _
      rw [hu]
      rfl
    | cr b' a' k' =>
      show (([] : List (Int × Int)), k' * units (runAfter r (.keep b a)) (.cr b' a' k')) = _
      rw [hu]
      rfl
  | lf b a k c =>
    by_cases z : k * units r (.lf b a k c) = 0
    · rw [show runAfter r (.lf b a k c) = ([], 0) from if_pos z]
      cases g with
      | keep b' a' =>
        show (([] : List (Int × Int)), (0 : Int)) = if k * units r (.lf b a k c) = 0 then ([], 0) else _
        rw [if_pos z]
      | lf b' a' k' c' =>
        have e : k * ((Fm.lf b' a' k' c').after c + 1) * k' * units r (.lf b a k c) = 0 := by
          rw [show k * ((Fm.lf b' a' k' c').after c + 1) * k' * units r (.lf b a k c) = ((Fm.lf b' a' k' c').after c + 1) * k' * (k * units r (.lf b a k c)) by
            simp only [Int.mul_assoc, Int.mul_comm, Int.mul_left_comm], z, Int.mul_zero]
        show (if k' * units ([], 0) (.lf b' a' k' c') = 0 then (([] : List (Int × Int)), (0 : Int)) else _) = if k * ((Fm.lf b' a' k' c').after c + 1) * k' * units r (.lf b a k c) = 0 then ([], 0) else _
        rw [units_none, Int.mul_zero, if_pos rfl, if_pos e]
      | cr b' a' k' =>
        have e : k * ((Fm.cr b' a' k').after c + 1) * k' * units r (.lf b a k c) = 0 := by
          rw [show k * ((Fm.cr b' a' k').after c + 1) * k' * units r (.lf b a k c) = ((Fm.cr b' a' k').after c + 1) * k' * (k * units r (.lf b a k c)) by
            simp only [Int.mul_assoc, Int.mul_comm, Int.mul_left_comm], z, Int.mul_zero]
        show (([] : List (Int × Int)), k' * units ([], 0) (.cr b' a' k')) = ([], k * ((Fm.cr b' a' k').after c + 1) * k' * units r (.lf b a k c))
        rw [units_none, Int.mul_zero, e]
    · rw [show runAfter r (.lf b a k c) = ([(k * units r (.lf b a k c), c)], 0) from if_neg z]
      cases g with
      | keep b' a' =>
        show (merged [(k * units r (.lf b a k c), (Fm.keep b' a').after c)], (0 : Int)) = if k * units r (.lf b a k c) = 0 then ([], 0) else ([(k * units r (.lf b a k c), (Fm.keep b' a').after c)], 0)
        rw [if_neg z]
        rfl
      | lf b' a' k' c' =>
        show (if k' * units ([(k * units r (.lf b a k c), c)], 0) (.lf b' a' k' c') = 0 then (([] : List (Int × Int)), (0 : Int)) else ([(k' * units ([(k * units r (.lf b a k c), c)], 0) (.lf b' a' k' c'), c')], 0)) =
          if k * ((Fm.lf b' a' k' c').after c + 1) * k' * units r (.lf b a k c) = 0 then ([], 0) else ([(k * ((Fm.lf b' a' k' c').after c + 1) * k' * units r (.lf b a k c), c')], 0)
        rw [units_one, show k' * (k * units r (.lf b a k c) * ((Fm.lf b' a' k' c').after c + 1)) = k * ((Fm.lf b' a' k' c').after c + 1) * k' * units r (.lf b a k c) by
          simp only [Int.mul_assoc, Int.mul_comm, Int.mul_left_comm]]
      | cr b' a' k' =>
        show (([] : List (Int × Int)), k' * units ([(k * units r (.lf b a k c), c)], 0) (.cr b' a' k')) = ([], k * ((Fm.cr b' a' k').after c + 1) * k' * units r (.lf b a k c))
        rw [units_one, show k' * (k * units r (.lf b a k c) * ((Fm.cr b' a' k').after c + 1)) = k * ((Fm.cr b' a' k').after c + 1) * k' * units r (.lf b a k c) by
          simp only [Int.mul_assoc, Int.mul_comm, Int.mul_left_comm]]
  | cr b a k =>
    cases g with
    | keep b' a' => rfl
    | lf b' a' k' c' =>
      show (if k' * units ([], k * units r (.cr b a k)) (.lf b' a' k' c') = 0 then (([] : List (Int × Int)), (0 : Int)) else ([(k' * units ([], k * units r (.cr b a k)) (.lf b' a' k' c'), c')], 0)) =
        if k * 1 * k' * units r (.cr b a k) = 0 then ([], 0) else ([(k * 1 * k' * units r (.cr b a k), c')], 0)
      rw [units_none, Int.mul_one, show k' * (k * units r (.cr b a k)) = k * k' * units r (.cr b a k) by simp only [Int.mul_assoc, Int.mul_comm, Int.mul_left_comm]]
    | cr b' a' k' =>
      show (([] : List (Int × Int)), k' * units ([], k * units r (.cr b a k)) (.cr b' a' k')) = ([], k * 1 * k' * units r (.cr b a k))
      rw [units_none, Int.mul_one, show k' * (k * units r (.cr b a k)) = k * k' * units r (.cr b a k) by simp only [Int.mul_assoc, Int.mul_comm, Int.mul_left_comm]]
end Lx
/-! promises of defs that are called where no repr is at work -/
namespace Lx
open PySem PySem.Spec L2
open PyProof.Rows (AllBare IntsAre)
/-- as FnOk, at callers in which no guarded call (a repr, a comparison) runs -/
structure FnG (P : Program) (w : World) (K : PySem.W.Frag) (mg : Str → Option Value) (base : Heap) (CX : CXT) (k : Nat) (f : Addr) (fd : FuncData) (ps : List Str) (sp : Sp) : Prop where
  len : ∀ vs H Q E, sp vs H Q E → vs.length = ps.length
  go : ∀ (A : Around) (outer : List Env) (s : Shared) (H : Hp) (args : Args) (us : List Value) (vs : List V) (Q : VK) (E : XK), Room k A → A.guards = some [] → Env0 P w K mg base A outer s H → BindsTo s fd args (ps.zip us) → Vals vs us → sp vs H Q E →
    codeAny (model P w) A (.call (.ref f) args) (CR CX outer P w H s Q E) s
section
variable {P : Program} {w : World} {K : PySem.W.Frag} {mg : Str → Option Value} {base : Heap} {CX : CXT}
theorem FnG.of {k : Nat} {f : Addr} {fd : FuncData} {ps : List Str} {sp : Sp} (F : FnOk P w K mg base CX k f fd ps sp) : FnG P w K mg base CX k f fd ps sp :=
  ⟨F.len, fun A outer s H args us vs Q E hr _ he hb hv hs => F.run A outer s H args us vs Q E hr he hb hv hs⟩
/-- a def's promise by its body -/
theorem okG {x qual : Str} {st : Stmt} {f : Addr} {fd : FuncData} {N ps : List Str} {k : Nat} {sp : Sp} (F : Fun K x qual st f fd) (S : FnScope N ps (defScope st)) (len : ∀ vs H Q E, sp vs H Q E → vs.length = ps.length)
    (hb : ∀ (cdv : Value) (A : Around) (outer : List Env) (s : Shared) (H : Hp) (vs : List V) (Q : VK) (E : XK), Room k (A.deeper (PyProof.Rows.envOfC qual (defScope st) s.heap.objs.size f cdv)) → A.guards = some [] → sp vs H Q E →
      ∃ t, PSs (cxOf CX P w K mg base N qual (defScope st) f cdv A outer s H E) (defBody st) t ∧ t { nx := fun _ H' => Q .non H', rt := Q } (start N vs) H) : FnG P w K mg base CX (k + 1) f fd ps sp := by
  obtain ⟨oc, od, kV, doc, pm, an, cdv, ct, osl, rfl, lk, hcd⟩ := F.ex
  refine ⟨len, fun A outer s H args us vs Q E hr hg e0 hbd r hsp => ?_⟩
  have X : K.In s.heap := e0.mod.kin.keeps fun b o e => (e0.bs b o e).1
  have lim : s.heap.NoLimit := e0.mod.nolimit.keeps fun b o e => (e0.bs b o e).1
  refine codeAny_call_function hr.depth (X _ _ lk) rfl S.co S.gen rfl (PySem.W.codeRec_of X hcd) (hbd _ _ _ _ ?_)
  refine wpAny_newFunctionEnv_cells S.kind (fun y hy => ?_) fun env he s1 x1 => ?_
  · obtain ⟨n, v⟩ := y
    rcases S.par n (List.of_mem_zip hy).1 with q | q
    · exact .inl q
    · exact .inr ⟨q, PySem.W.cellsFrom_some _ _ _ (.inl q)⟩
  · subst he
    refine ⟨lim.keeps x1.toInCall.keep, codeAny_func ?_⟩
    obtain ⟨t, ht, hq⟩ := hb cdv A outer s H vs Q E (hr.deeper _) hg hsp
    have I := inv_start (CX := CX) (E := E) S hr.hd e0 (len _ _ _ _ hsp) r x1
    refine wpAny_mono (ht.run [] s1 (start N vs) H _ I hq) (fun fl s2 z => ?_) fun _ _ z => z
    rcases fl with _ | _ | _ | u
    all_goals first
      | (obtain ⟨_, _, _, q⟩ := z; exact q.elim)
      | (obtain ⟨σ2, H2, J, q⟩ := z; exact ⟨V.non, H2, J.os, J.bare, J.base, J.hok, rfl, q⟩)
      | (obtain ⟨v2, σ2, H2, J, rv, q⟩ := z; exact ⟨v2, H2, J.os, J.bare, J.base, J.hok, rv, q⟩)
end
section
variable {X : Cx} {CX : CXT} {k : Nat} {f : Addr} {fd : FuncData} {ps : List Str} {sp : Sp} {dvs : List V} {ds : List Value} {E : XK} {x : Str} {p pos : Pos} {e : Expr} {es : List Expr} {t : TA}
/-- f(e, ..) -/
theorem pe_callG (F : FnG X.prog X.w X.K X.mg X.base CX k f fd ps sp) (hG : X.A.guards = some []) (hr : Room k X.A) (hg : Gl X x) (hm : X.mg x = some (.ref f)) (hk : PySem.W.keepIn X.K (.ref f) = true) (hb : Binds X.K fd ps ds) (hd : Vals dvs ds) (hx : Passes CX X E)
    (ha : PA X (e :: es) t) (hdb : (x == ("__debug__" : Str)) = false := by decide) (he : starEach (e :: es) X.env = (false, eval e X.env) :: starEach es X.env := by rfl) (hpl : (backTo pos (starEach es X.env)).any (·.1) = false := by rfl) :
    PE X (.Call (.Name x p) (e :: es) [] pos) (tCall sp dvs E t) := by
  refine ⟨fun pins s σ H Q I h => ?_⟩
  refine wpAny_Call_Name_kw (ld_glob I hg hm ?_ hdb)
  refine PySem.W.callWith_K (h₀ := X.base) I.ok.mod.kin hk (thn (ha.run pos pins s σ H _ I h) fun us s1 ⟨vs, H1, I1, r, q⟩ => ⟨I1.kIn, ?_⟩) he hpl
  have r2 : Vals (vs ++ dvs) (us ++ ds) := r.append hd
  have hl : (us ++ ds).length = ps.length := by rw [← r2.length]; exact F.len _ _ _ _ q
  show wpAny _ _ (call (.ref f) us) _ _ _
  refine wpAny_call (codeAny_mono (F.go X.A X.stack s1 H1 ⟨us, []⟩ (us ++ ds) (vs ++ dvs) Q E hr hG I1.env0 (hb s1 us I1.kIn hl) r2 q) fun res s' hq => ?_)
  rcases res with er | fl
  · exact hx pins σ H1 s1 er s' I1 hq
  · rcases fl with _ | _ | _ | u
    all_goals first
      | exact I1.after hq
      | exact False.elim hq
end
/-- the heap in which nothing but the script is told -/
def onlyAt (a : Addr) (o : Obj) (ns : List Int) : Hp := fun b => if b = a then some (.frz o (.lst (ns.map V.int))) else none
section
variable {P : Program} {w : World} {K : PySem.W.Frag} {mg mb : Str → Option Value} {CX : CXT} {k : Nat} {fa a : Addr} {fd : FuncData} {x : Str} {sp : Sp} {s : Shared} {vs : List Value} {ns : List Int}
/-- the law's call, from an abstract heap that tells of the script at most -/
theorem lawFrom (KX : K.In s.heap) (hns : s.heap.Ns mainGlobals mg) (hbl : s.heap.Ns builtinsNs mb) (hbb : ∀ x : Str, x ≠ "__name__" → mb x = bootBuiltins x) (hlim : s.heap.NoLimit) (hg : s.gens = #[]) {o : Obj} (ho : s.heap.get? a = some o) (hdict : ∀ es ep, o.data ≠ .dict es ep)
    (hr : Room k callerA) (F : ∀ base : Heap, K.In base → base.Ns mainGlobals mg → FnG P w K mg base CX k fa fd [x] sp) (hbind : ∀ (s : Shared) (u : Value), BindsTo s fd ⟨[u], []⟩ [(x, u)])
    (H : Hp) (hok : HOk P w H s.heap) (hA : ∀ b, H b ≠ none → b = a ∧ K.lookup a = none ∧ H a = some (.frz o (.lst (ns.map V.int)))) (hsp : sp [.ref a] H (fun v _ => v = .bl true) fun _ _ _ => False) (hCX : ∀ e s', CX [] H s (fun _ _ _ => False) e s' → False) :
    codeAny (model P w) callerA (.call (.ref fa) ⟨[.ref a], []⟩) (fun r s' => r = .ok (.ret (.bool true)) ∧ OldK s.heap s'.heap ∧ s'.os = s.os ∧ AllBare s'.gens) s := by
  have free : ∀ {b : Addr} {u : Obj}, s.heap.get? b = some u → (∃ es ep, u.data = .dict es ep) → H b = none := fun {b u} e ⟨es, ep, d⟩ => by
    cases q : H b with
    | none => rfl
    | some z =>
      obtain ⟨rfl, _, _⟩ := hA b (by rw [q]; simp)
      rw [ho] at e
      cases e
      exact (hdict es ep d).elim
  have nsK : ∀ {b : Addr} {m : Str → Option Value}, s.heap.Ns b m → (hidT s.heap H).Ns b m := fun {b m} ⟨u, es, ep, e, d, r⟩ => ⟨u, es, ep, hidT_get e (free e ⟨es, ep, d⟩), d, r⟩
  have kb : K.In (hidT s.heap H) := fun b u e => hidT_get (KX b u e) (by
    cases q : H b with
    | none => rfl
    | some z =>
      obtain ⟨rfl, q2, _⟩ := hA b (by rw [q]; simp)
      rw [q2] at e
      cases e)
  have hM : Mod K mg (hidT s.heap H) := ⟨kb, nsK hns, ⟨mb, nsK hbl, hbb⟩, let ⟨mc, h1, h2⟩ := hlim; ⟨mc, nsK h1, h2⟩⟩
  have e0 : Env0 P w K mg (hidT s.heap H) callerA [] s H := ⟨rfl, hM, fun b u e => of_hidT e, Nat.le_of_eq (hidT_size _ _), trivial, fun b hb => absurd (show b ∈ ([] : List Addr) from hb) (by simp), hok, .of_eq hg⟩
  refine codeAny_mono ((F _ kb (nsK hns)).go callerA [] s H ⟨[.ref a], []⟩ [.ref a] [.ref a] _ _ hr rfl e0 (hbind s (.ref a)) (.cons rfl .nil) hsp) fun r s' h => ?_
  rcases r with e | fl
  · exact (hCX e s' h).elim
  · rcases fl with _ | _ | _ | u
    all_goals first
      | exact False.elim h
      | skip
    obtain ⟨v, H', os, bare, un, hok', r', q⟩ := h
    obtain rfl : v = .bl true := q
    obtain rfl : u = Value.bool true := r'
    refine ⟨rfl, OldK.of_keep fun b u e => ?_, os, bare⟩
    cases q : H b with
    | none => exact un.keep b u e q (fun z => absurd (show b ∈ ([] : List Addr) from z) (by simp)) (by simp)
    | some z =>
      obtain ⟨rfl, _, q3⟩ := hA b (by rw [q]; simp)
      obtain ⟨e2, _⟩ := hok' b _ (un.frzs b o _ q3)
      rw [ho] at e
      cases e
      exact e2
theorem lawCall (KX : K.In s.heap) (hns : s.heap.Ns mainGlobals mg) (hbl : s.heap.Ns builtinsNs mb) (hbb : ∀ x : Str, x ≠ "__name__" → mb x = bootBuiltins x) (hlim : s.heap.NoLimit) (hg : s.gens = #[])
    (ha : s.heap.get? a = some { cls := .type "list", data := .seq vs.toArray }) (hi : IntsAre vs ns) (hl : ns.length ≤ sizeLine) (hr : Room k callerA)
    (F : ∀ base : Heap, K.In base → base.Ns mainGlobals mg → FnG P w K mg base CX k fa fd [x] sp) (hbind : ∀ (s : Shared) (u : Value), BindsTo s fd ⟨[u], []⟩ [(x, u)])
    (hsp : ∀ H : Hp, SqL K H a (ns.map V.int) → sp [.ref a] H (fun v _ => v = .bl true) fun _ _ _ => False) (hCX : ∀ H e s', CX [] H s (fun _ _ _ => False) e s' → False) :
    codeAny (model P w) callerA (.call (.ref fa) ⟨[.ref a], []⟩) (fun r s' => r = .ok (.ret (.bool true)) ∧ OldK s.heap s'.heap ∧ s'.os = s.os ∧ AllBare s'.gens) s := by
  have rv := vals_ints hi
  cases hk : K.lookup a with
  | some o =>
    have e := KX a o hk
    rw [ha] at e
    cases e
    refine lawFrom KX hns hbl hbb hlim hg ha (fun _ _ z => by cases z) hr F hbind (ns := ns) (fun _ => none) (fun b u z => by cases z) (fun b z => absurd rfl z) (hsp _ ?_) (hCX _)
    exact .inr ⟨_, vs.toArray, _, hk, rfl, rfl, rfl, by rw [List.size_toArray, hi.length]; exact hl, by simpa using rv⟩
  | none =>
    refine lawFrom KX hns hbl hbb hlim hg ha (fun _ _ z => by cases z) hr F hbind (ns := ns) (onlyAt a { cls := .type "list", data := .seq vs.toArray } ns) (fun b u z => ?_) (fun b z => ?_) (hsp _ (.inl (.inr ⟨_, if_pos rfl⟩))) (hCX _)
    · by_cases hb : b = a
      · have q := (if_pos hb).symm.trans z
        cases q
        subst hb
        exact ⟨ha, by rw [List.length_map]; exact hl, vs, _, rv, ha⟩
      · have q := (if_neg hb).symm.trans z
        cases q
    · by_cases hb : b = a
      · exact ⟨hb, hk, if_pos rfl⟩
      · exact absurd (if_neg hb) z
end
/-- the end of a law's row -/
theorem endG {l : PySem.W.OpenLaw} {n k : Nat} {q : Program} {loose : List Str} {XP : (Str → Option Value) → Heap → Prop} {YP : World → Heap → Prop} {d : DefRec} {K : Params → PySem.W.Frag} {CX : World → CXT} {sp : World → Sp} {x : Str}
    (hn : l.most = some n) (hn2 : n ≤ sizeLine) (hdf : d.params.defaults = []) (hr : Room k callerA) (hY : ∀ (w : World) (h : Heap), YP w h → (K w.params).In h)
    (F : ∀ (w : World) (mg : Str → Option Value) (fa : Addr) (h : Heap), (K w.params).In h → h.Ns mainGlobals mg → mg d.name = some (.ref fa) →
      ∃ fd : FuncData, (∀ (s : Shared) (u : Value), BindsTo s fd ⟨[u], []⟩ [(x, u)]) ∧ ∀ base : Heap, (K w.params).In base → base.Ns mainGlobals mg → FnG l.prog w (K w.params) mg base (CX w) k fa fd [x] (sp w))
    (hsp : ∀ (w : World) (H : Hp) (a : Addr) (ns : List Int), ns.length ≤ n → SqL (K w.params) H a (ns.map V.int) → sp w [.ref a] H (fun v _ => v = .bl true) fun _ _ _ => False)
    (hCX : ∀ (w : World) (H : Hp) (s : Shared) (e : Value) (s' : Shared), CX w [] H s (fun _ _ _ => False) e s' → False) : PySem.W.WalkO q loose XP YP l.row.toRowW d [] (fun f vs => PySem.call f vs) := by
  refine Att.attach_call hn hdf fun w s₀ s₁ mg mb fa o pm cd doc a vs ns G Y ho hd hcd hmg hobj hints hlen hg => ?_
  obtain ⟨fd, hb, hF⟩ := F w mg fa _ (hY w _ Y) G.T.g hmg
  exact lawCall (hY w _ Y) G.T.g G.T.b G.T.builtins G.T.nolimit hg hobj hints (Nat.le_trans hlen hn2) hr hF hb (fun H hS => hsp w H a ns hlen hS) fun H e s' => hCX w H s₁ e s'
end Lx
namespace Lx
open PySem PySem.Spec L2
/-! ### repr of data -/
structure Fit (d : PyData) : Prop where
  can : d.showable = true
  no : d.hasDict = false
  dep : d.depth ≤ 40
  len : d.shown.length ≤ sizeLine
/-- repr(x), x data -/
def rRepr (K : PySem.W.Frag) : List V → Hp → VK → Prop := fun xs H Q => ∃ x d, xs = [x] ∧ Dp K H x d ∧ Fit d ∧ Q (.str d.shown) H
theorem call_reprD {X : Cx} (hG : X.A.guards = some []) (hu : X.A.units + 64 < cLine) : CallR X (.builtin "repr") (rRepr X.K) := by
  intro pins s σ H xs us Q I r h
  obtain ⟨x, d, rfl, hd, F, q⟩ := h
  obtain ⟨u, rfl, r1⟩ := vals1 r
  obtain ⟨as, rd⟩ := Dp.reads I d x u hd r1
  have big : ∀ a : Addr, u = .ref a → wpAny (model X.prog X.w) X.A (call (.builtin "repr") [u]) (EP X pins σ Q) X.xe s := fun a e => by
    subst e
    exact repr_of_reads' rd F.can (PyData.noDict_hsm F.no) hG (by have := F.dep; omega) (fun _ _ e => e) (fun h' t tk kp => ⟨.str d.shown, H, I.kept (t' := tk) kp, ⟨t, rfl⟩, q⟩) F.len
  cases hd with
  | non =>
    cases r1
    exact P.repr_of_none ⟨.str _, H, I.tok _, ⟨_, rfl⟩, q⟩
  | bl b =>
    cases r1
    exact P.repr_of_bool ⟨.str _, H, I.tok _, ⟨_, rfl⟩, by cases b <;> exact q⟩
  | int i =>
    obtain ⟨t, rfl⟩ := r1
    exact P.repr_of_int (of_decide_eq_true F.can) ⟨.str _, H, I.tok _, ⟨_, rfl⟩, q⟩
  | str y =>
    obtain ⟨t, rfl⟩ := r1
    exact P.repr_of_str ⟨.str _, H, I.tok _, ⟨_, rfl⟩, q⟩ F.len
  | lst _ _ => exact big _ r1
  | tup _ _ => exact big _ r1
/-! ### which class is which -/
section
variable {K : PySem.W.Frag} {file : Str} {mg : Str → Option Value} {L C D : Addr} {nm qual nm2 qual2 : Str} {st st2 : Stmt}
theorem ErrC.some_ (T : ErrC K file mg L nm qual st C) : (PySem.W.clsIn K C).isSome = true := by
  obtain ⟨cd, e, _⟩ := T.chain
  rw [e]; rfl
theorem LineC.some_ (T : LineC K mg L) : (PySem.W.clsIn K L).isSome = true := by
  obtain ⟨n, q, N, bs, sn, sub, ab, col, dd, k0, k1, k2, k3, k5, hL⟩ := T.cls
  unfold PySem.W.clsIn
  rw [hL] <;> rfl
theorem kit_ref {b : Bool} (h1 : (PySem.W.clsIn K D).isSome = true) (h2 : PySem.W.typeIn K (.ref D) = some (.type "type")) (T : ErrC K file mg L nm qual st C) (h : (Value.ref C :: .ref L :: HandSPX.veTail).contains (.ref D) = b) : PySem.W.kitOne K (.ref C) (.ref D) = some b := by
  unfold PySem.W.kitOne
  by_cases e : C = D
  · subst e
    have z : (Value.ref C == Value.ref C) = true := by simp
    rw [if_pos z, ← h]
    simp
  · have z : ¬ (Value.ref C == Value.ref D) = true := by simpa using e
    rw [if_neg z]
    show (if ((PySem.W.clsIn K D).isSome && PySem.W.typeIn K (.ref D) == some (.type "type")) = true then PySem.W.subIn K (.ref C) (.ref D) else none) = some b
    rw [h1, h2, if_pos (by rfl)]
    exact (T.under _).trans (by rw [h])
theorem kit_err (T : ErrC K file mg L nm qual st C) (T2 : ErrC K file mg L nm2 qual2 st2 D) (hD : D ≠ L) : PySem.W.kitOne K (.ref C) (.ref D) = some (decide (C = D)) := by
  refine kit_ref T2.some_ T2.ty T ?_
  rw [List.contains_cons, List.contains_cons]
  have e1 : (Value.ref D == Value.ref L) = false := by simpa using hD
  have e2 : List.contains HandSPX.veTail (Value.ref D) = false := by rfl
  rw [e1, e2]
  by_cases e : C = D
  · subst e; simp
  · have z : (Value.ref D == Value.ref C) = false := by simpa using Ne.symm e
    rw [z, decide_eq_false e]; rfl
theorem kit_line (TL : LineC K mg L) (T : ErrC K file mg L nm qual st C) : PySem.W.kitOne K (.ref C) (.ref L) = some true := kit_ref TL.some_ TL.ty T (by simp)
theorem kit_ve (T : ErrC K file mg L nm qual st C) : PySem.W.kitOne K (.ref C) (.type "ValueError") = some true := by
  unfold PySem.W.kitOne
  rw [if_neg (by simp)]
  show (if PySem.W.kitMeta "ValueError" = true then PySem.W.subIn K (.ref C) (.type "ValueError") else none) = some true
  rw [if_pos (by decide +kernel)]
  exact (T.under _).trans (by rfl)
end
/-! ### data that repr can write -/
/-- ints below 2 ^ 400, texts of plain signs -/
def small : PyData → Bool
  | .none | .bool _ => true
  | .int i => decide (i.natAbs < 2 ^ 400)
  | .str x => x.cps.toList.all fun c => decide (c < 128)
  | .list xs | .tuple xs => smallAll xs
  | .dict _ => false
where smallAll : List PyData → Bool
  | [] => true
  | x :: xs => small x && smallAll xs
theorem int_log {i : Int} (h : i.natAbs < 2 ^ 400) : i.natAbs.log2 < 400 := PySem.Flt.log2_lt_of (by decide) h
theorem int_shown {i : Int} (h : i.natAbs < 2 ^ 400) : (PyData.shown (.int i)).length ≤ 401 := by
  have e := int_text_length_le (k := 400) (by decide) (int_log h)
  show (Str.ofString (toString i)).length ≤ 401
  rw [ofString_length]
  omega
mutual
theorem small_can : ∀ d : PyData, small d = true → d.showable = true
  | .none, _ => rfl
  | .bool _, _ => rfl
  | .int i, h => by
    have e := int_log (of_decide_eq_true (show decide (i.natAbs < 2 ^ 400) = true by simpa only [small] using h))
    simp only [PyData.showable]
    exact decide_eq_true (by omega)
  | .str _, _ => rfl
  | .list xs, h => by
    simp only [PyData.showable]
    exact small_canAll xs (by simpa only [small] using h)
  | .tuple xs, h => by
    simp only [PyData.showable]
    exact small_canAll xs (by simpa only [small] using h)
  | .dict _, h => by simp [small] at h
theorem small_canAll : ∀ xs : List PyData, small.smallAll xs = true → PyData.showableAll xs = true
  | [], _ => rfl
  | x :: xs, h => by
    have h' : small x = true ∧ small.smallAll xs = true := by simpa only [small.smallAll, Bool.and_eq_true] using h
    simp only [PyData.showableAll, Bool.and_eq_true]
    exact ⟨small_can x h'.1, small_canAll xs h'.2⟩
end
mutual
theorem small_no : ∀ d : PyData, small d = true → d.hasDict = false
  | .none, _ => rfl
  | .bool _, _ => rfl
  | .int i, h => rfl
  | .str _, _ => rfl
  | .list xs, h => by
    simp only [PyData.hasDict]
    exact small_noAll xs (by simpa only [small] using h)
  | .tuple xs, h => by
    simp only [PyData.hasDict]
    exact small_noAll xs (by simpa only [small] using h)
  | .dict _, h => by simp [small] at h
theorem small_noAll : ∀ xs : List PyData, small.smallAll xs = true → PyData.hasDictAll xs = false
  | [], _ => rfl
  | x :: xs, h => by
    have h' : small x = true ∧ small.smallAll xs = true := by simpa only [small.smallAll, Bool.and_eq_true] using h
    simp only [PyData.hasDictAll, Bool.or_eq_false_iff]
    exact ⟨small_no x h'.1, small_noAll xs h'.2⟩
end
mutual
theorem small_leaves : ∀ d : PyData, small d = true → d.leavesShort 401 = true
  | .none, _ => rfl
  | .bool _, _ => rfl
  | .int i, h => by
    have e := int_shown (of_decide_eq_true (show decide (i.natAbs < 2 ^ 400) = true by simpa only [small] using h))
    simp only [PyData.leavesShort]
    exact decide_eq_true e
  | .str x, h => by
    simp only [PyData.leavesShort, List.all_eq_true, decide_eq_true_eq]
    simp only [small, List.all_eq_true, decide_eq_true_eq] at h
    intro c hc
    exact Nat.lt_of_lt_of_le (h c hc) (by decide)
  | .list xs, h => by
    simp only [PyData.leavesShort]
    exact small_leavesAll xs (by simpa only [small] using h)
  | .tuple xs, h => by
    simp only [PyData.leavesShort]
    exact small_leavesAll xs (by simpa only [small] using h)
  | .dict _, h => by simp [small] at h
theorem small_leavesAll : ∀ xs : List PyData, small.smallAll xs = true → PyData.leavesShortAll 401 xs = true
  | [], _ => rfl
  | x :: xs, h => by
    have h' : small x = true ∧ small.smallAll xs = true := by simpa only [small.smallAll, Bool.and_eq_true] using h
    simp only [PyData.leavesShortAll, Bool.and_eq_true]
    exact ⟨small_leaves x h'.1, small_leavesAll xs h'.2⟩
end
theorem fit_small {d : PyData} (h : small d = true) (hd : d.depth ≤ 40) (hb : d.bulk ≤ 40000) : Fit d := by
  refine ⟨small_can d h, small_no d h, hd, ?_⟩
  have e := PyData.shown_le_bulk 401 (by decide) d (small_leaves d h)
  have e2 : (401 + 2) * d.bulk ≤ 403 * 40000 := Nat.mul_le_mul (by decide) hb
  rw [sizeLine_eq]
  omega
end Lx
namespace Lx
open PySem PySem.Spec L2 PyProof.Rows
/-! ### f(k = v, ..) of a def -/
section
variable {X : Cx} {CX : CXT} {k : Nat} {f : Addr} {fd : FuncData} {ps ks : List Str} {sp : Sp} {E : XK} {x : Str} {p pos : Pos} {kws : List Keyword} {tk : TA} {g : List Value → List Value → List Value} {gV : List V → List V → List V}
theorem pe_callK0 (F : FnOk X.prog X.w X.K X.mg X.base CX k f fd ps sp) (hr : Room k X.A) (hg : Gl X x) (hm : X.mg x = some (.ref f)) (hk : PySem.W.keepIn X.K (.ref f) = true) (hb : KBinds X.K fd ps ks g gV) (hx : Passes CX X E)
    (hkw : PK X kws tk) (hall : (backToKw pos (keywordEach kws X.env)).all (·.1.isSome) = true := by rfl) (hks : (backToKw pos (keywordEach kws X.env)).filterMap (·.1) = ks := by rfl)
    (hdb : (x == ("__debug__" : Str)) = false := by decide) (hpl : ((backTo pos (starEach [] X.env)).any (·.1) || (backToKw pos (keywordEach kws X.env)).any (·.1.isNone)) = false := by rfl) :
    PE X (.Call (.Name x p) [] kws pos) (tCallK sp gV E tNil tk) := by
  refine ⟨fun pins s σ H Q I h => ?_⟩
  refine wpAny_Call_Name_kw (ld_glob I hg hm ?_ hdb)
  refine PySem.W.callWith_KW0 (h₀ := X.base) I.ok.mod.kin hk hall ?_ hpl
  refine thn (hkw.run pos pins s σ H _ I h) fun ws s2 ⟨zs, H2, I2, rz, q2⟩ => ⟨I2.kIn, ?_⟩
  rw [hks]
  exact run_fnk (us := []) (vs := []) F hr hb hx I2 .nil rz q2
end
/-- two keywords, the second parameter's first -/
def g21 (α : Type) : List α → List α → List α
  | [], [a, b] => [b, a]
  | _, _ => []
def g1 (α : Type) : List α → List α → List α
  | [], [a] => [a]
  | _, _ => []
theorem kb21 {K : PySem.W.Frag} {x qual : Str} {st : Stmt} {f : Addr} {fd : FuncData} {p1 p2 : Str} (F : Fun K x qual st f fd)
    (h : ∀ (kV doc pm : Value) (an : Option Addr) (cdv ct a b : Value), bindArgs (PySem.W.fnOf x qual (defArgs st) (defBody st) (defScope st) .none kV doc pm an cdv ct) ⟨[], [(p2, a), (p1, b)]⟩ = pure [(p1, b), (p2, a)]) : KBinds K fd [p1, p2] [p2, p1] (g21 Value) (g21 V) := by
  obtain ⟨oc, od, kV, doc, pm, an, cdv, ct, osl, rfl, lk, hcd⟩ := F.ex
  refine ⟨fun s us ws _ hl => ?_, fun {vs us zs ws} r1 r2 => ?_⟩
  · match us, ws, hl with
    | [], [a, b], _ => exact .of_eq (h kV doc pm an cdv ct a b)
    | [], [], hl => exact absurd hl (by simp [g21])
    | [], [_], hl => exact absurd hl (by simp [g21])
    | [], _ :: _ :: _ :: _, hl => exact absurd hl (by simp [g21])
    | _ :: _, _, hl => exact absurd hl (by simp [g21])
  · cases r1 with
    | cons _ _ => exact .nil
    | nil =>
      cases r2 with
      | nil => exact .nil
      | cons a t =>
        cases t with
        | nil => exact .nil
        | cons b t =>
          cases t with
          | nil => exact .cons b (.cons a .nil)
          | cons _ _ => exact .nil
theorem kb1 {K : PySem.W.Frag} {x qual : Str} {st : Stmt} {f : Addr} {fd : FuncData} {p1 : Str} (F : Fun K x qual st f fd)
    (h : ∀ (kV doc pm : Value) (an : Option Addr) (cdv ct a : Value), bindArgs (PySem.W.fnOf x qual (defArgs st) (defBody st) (defScope st) .none kV doc pm an cdv ct) ⟨[], [(p1, a)]⟩ = pure [(p1, a)]) : KBinds K fd [p1] [p1] (g1 Value) (g1 V) := by
  obtain ⟨oc, od, kV, doc, pm, an, cdv, ct, osl, rfl, lk, hcd⟩ := F.ex
  refine ⟨fun s us ws _ hl => ?_, fun {vs us zs ws} r1 r2 => ?_⟩
  · match us, ws, hl with
    | [], [a], _ => exact .of_eq (h kV doc pm an cdv ct a)
    | [], [], hl => exact absurd hl (by simp [g1])
    | [], _ :: _ :: _, hl => exact absurd hl (by simp [g1])
    | _ :: _, _, hl => exact absurd hl (by simp [g1])
  · cases r1 with
    | cons _ _ => exact .nil
    | nil =>
      cases r2 with
      | nil => exact .nil
      | cons a t =>
        cases t with
        | nil => exact .cons a .nil
        | cons _ _ => exact .nil
end Lx
/-! texts repeated -/
namespace Lx
open PySem PySem.Spec L2
/-- the signs of a text, n times -/
def rep (x : Str) (n : Nat) : Str := ⟨((List.replicate n x.cps.toList).flatten).toArray⟩
theorem rep_list (x : Str) (n : Nat) : (rep x n).cps.toList = (List.replicate n x.cps.toList).flatten := rfl
theorem rep_len (x : Str) (n : Nat) : (rep x n).length = x.length * n := by
  show ((List.replicate n x.cps.toList).flatten).toArray.size = x.cps.size * n
  rw [List.size_toArray, List.length_flatten, List.map_replicate, List.sum_replicate_nat, Array.length_toList, Nat.mul_comm]
theorem rep_one (x : Str) : rep x 1 = x := by
  have e : (rep x 1).cps.toList = x.cps.toList := by simp [rep_list]
  exact Str.ext' (Array.toList_inj.mp e)
theorem rep_zero (x : Str) : rep x 0 = Str.empty := rfl
theorem fold_rep (a : Array Nat) : ∀ (n : Nat) (b : Array Nat), ((List.replicate n a).foldl (· ++ ·) b).toList = b.toList ++ (List.replicate n a.toList).flatten
  | 0, b => by simp
  | n + 1, b => by
    rw [List.replicate_succ, List.foldl_cons, fold_rep a n, List.replicate_succ, List.flatten_cons, Array.toList_append, List.append_assoc]
theorem rep_fold (x : Str) (n : Nat) : (⟨(List.replicate n x.cps).foldl (· ++ ·) #[]⟩ : Str) = rep x n := by
  have e : ((List.replicate n x.cps).foldl (· ++ ·) #[]).toList = (rep x n).cps.toList := by
    rw [fold_rep, rep_list]; rfl
  exact Str.ext' (Array.toList_inj.mp e)
theorem rep_empty (x : Str) (n : Nat) (h : x.length = 0) : rep x n = x := by
  have e : x.cps.toList = [] := List.eq_nil_of_length_eq_zero (by rw [Array.length_toList]; exact h)
  have e2 : (rep x n).cps.toList = x.cps.toList := by
    rw [rep_list, e]
    induction n with
    | zero => rfl
    | succ n ih => rw [List.replicate_succ, List.flatten_cons, ih]; rfl
  exact Str.ext' (Array.toList_inj.mp e2)
/-- text * k -/
def rRepS : R2 := fun x y H Q => ∃ (z : Str) (k : Int), x = .str z ∧ y = .int k ∧ 0 ≤ k ∧ k < 1000000000 ∧ z.length * k.toNat ≤ sizeLine ∧ Q (.str (rep z k.toNat)) H
theorem op_repS {X : Cx} : OpR X (binaryOp .Mult) rRepS := by
  intro pins s σ H x y v u Q I rx ry h
  obtain ⟨z, k, rfl, rfl, h0, h1, hz, q⟩ := h
  obtain ⟨t, rfl⟩ := rx
  obtain ⟨t', rfl⟩ := ry
  have hlong : PySem.Builtin.Str.tooLong (z.length * k.toNat) = false := by
    unfold PySem.Builtin.Str.tooLong
    exact decide_eq_false (by omega)
  refine P.mul_str (by rw [decide_eq_false (by omega), decide_eq_false (by omega)]; rfl) (fun hk _ => ?_) (fun _ _ => hlong) ?_
  · have e : (z.length : Int) * k ≤ 2 ^ 63 - 1 := by
      have e1 : (z.length : Int) * k = ((z.length * k.toNat : Nat) : Int) := by
        rw [Int.natCast_mul, Int.toNat_of_nonneg h0]
      have e2 : sizeLine ≤ 9223372036854775807 := by rw [sizeLine_eq]; decide
      rw [e1]
      omega
    have hkp : 0 < k := by omega
    have := Int.le_ediv_of_mul_le hkp e
    omega
  · by_cases hk : k < 1
    · rw [if_pos hk]
      have e : k.toNat = 0 := by omega
      rw [e, rep_zero] at q
      exact ⟨by decide, ⟨.str _, H, I.tok _, ⟨_, rfl⟩, q⟩⟩
    · rw [if_neg hk]
      by_cases h2 : (k == 1 || z.length == 0) = true
      · rw [if_pos h2]
        have e : rep z k.toNat = z := by
          rcases Bool.or_eq_true_iff.mp h2 with e | e
          · have e' : k.toNat = 1 := by have := beq_iff_eq.mp e; omega
            rw [e', rep_one]
          · exact rep_empty _ _ (beq_iff_eq.mp e)
        rw [e] at q
        exact ⟨.str _, H, I, ⟨_, rfl⟩, q⟩
      · rw [if_neg h2, rep_fold]
        exact ⟨by rw [rep_len]; exact hz, ⟨.str _, H, I.tok _, ⟨_, rfl⟩, q⟩⟩
end Lx
namespace Lw
open PySem PySem.Spec L2 Lx
theorem same_upd {H : Hp} {p : Addr} {o : HO} (h : H p = none) : Same H (upd H p o) := fun b x e => by
  rw [upd_ne (ne_of_none e h)]
  exact e
abbrev steps : Str := "UDMN"
def ChOk (x : Str) : Prop := ∀ c ∈ x.cps.toList, c ∈ steps.cps.toList
abbrev nothing : Fm := .keep 0 0
def stepF (c : Nat) : Fm := if c = 85 then .keep 0 1 else if c = 68 then .keep 1 0 else if c = 77 then .lf 0 0 1 0 else .cr 0 0 1
def formL (cs : List Nat) : Fm := cs.foldl (fun f c => f.both (stepF c)) nothing
def formOf (x : Str) : Fm := formL x.cps.toList
def FLe (L : Nat) : Fm → Prop
  | .keep b a => 0 ≤ b ∧ b ≤ L ∧ 0 ≤ a ∧ a ≤ L
  | .lf b a k c => 0 ≤ b ∧ b ≤ L ∧ 0 ≤ a ∧ a ≤ L ∧ 0 < k ∧ Sm (13 * L + 1) k ∧ 0 ≤ c ∧ c ≤ L
  | .cr b a k => 0 ≤ b ∧ b ≤ L ∧ 0 ≤ a ∧ a ≤ L ∧ 0 < k ∧ Sm (13 * L + 1) k
theorem sm_le {L : Nat} {x : Int} (h0 : 0 ≤ x) (h : x ≤ L) : Sm (13 * L + 1) x := by
  have h1 : L < 2 ^ L := Nat.lt_two_pow_self
  have h2 : 2 ^ L ≤ 2 ^ (13 * L + 1) := Nat.pow_le_pow_right (by decide) (by omega)
  unfold Sm
  omega
theorem FLe.ok {L : Nat} : ∀ {f : Fm}, FLe L f → f.Ok (13 * L + 1)
  | .keep _ _, ⟨h1, h2, h3, h4⟩ => ⟨h1, h3, sm_le h1 h2, sm_le h3 h4⟩
  | .lf _ _ _ _, ⟨h1, h2, h3, h4, h5, h6, h7, h8⟩ => ⟨h1, h3, h5, h7, sm_le h1 h2, sm_le h3 h4, h6, sm_le h7 h8⟩
  | .cr _ _ _, ⟨h1, h2, h3, h4, h5, h6⟩ => ⟨h1, h3, h5, sm_le h1 h2, sm_le h3 h4, h6⟩
theorem step_cases {c : Nat} (h : c ∈ steps.cps.toList) : stepF c = .keep 0 1 ∨ stepF c = .keep 1 0 ∨ stepF c = .lf 0 0 1 0 ∨ stepF c = .cr 0 0 1 := by
  unfold stepF
  split
  · exact .inl rfl
  · split
    · exact .inr (.inl rfl)
    · split
      · exact .inr (.inr (.inl rfl))
      · exact .inr (.inr (.inr rfl))
theorem sm_mul {L : Nat} {k x : Int} (hk : Sm (13 * L + 1) k) (h0 : 0 ≤ x) (h : x < 8192) : Sm (13 * (L + 1) + 1) (k * x * 1) := by
  have e : Sm 13 x := by
    unfold Sm
    have : (2 : Nat) ^ 13 = 8192 := by decide
    omega
  rw [Int.mul_one]
  exact (hk.mul e).mono (by omega)
theorem sm_up {L : Nat} {k : Int} (hk : Sm (13 * L + 1) k) : Sm (13 * (L + 1) + 1) k := hk.mono (by omega)
theorem pp (x : Int) : 0 ≤ (if x > 0 then x else 0) ∧ ((if x > 0 then x else 0) = x ∨ ((if x > 0 then x else 0) = 0 ∧ x ≤ 0)) := by
  by_cases h : x > 0
  · rw [if_pos h]; omega
  · rw [if_neg h]; omega
theorem FLe.step {L : Nat} (hL : L ≤ 7000) {c : Nat} (hc : c ∈ steps.cps.toList) {f : Fm} (h : FLe L f) : FLe (L + 1) (f.both (stepF c)) := by
  cases f with
  | keep b a =>
    obtain ⟨h1, h2, h3, h4⟩ := h
    have p1 := pp (0 - a)
    have p2 := pp (a - 0)
    have p3 := pp (1 - a)
    have p4 := pp (a - 1)
    have one : Sm (13 * (L + 1) + 1) 1 := sm_le (L := L + 1) (by decide) (by omega)
    rcases step_cases hc with e | e | e | e <;> rw [e] <;> simp only [Fm.both, Fm.ahead, Fm.b, Fm.a, FLe]
    · exact ⟨by omega, by omega, by omega, by omega⟩
    · exact ⟨by omega, by omega, by omega, by omega⟩
    · exact ⟨by omega, by omega, by omega, by omega, by decide, one, by decide, by omega⟩
    · exact ⟨by omega, by omega, by omega, by omega, by decide, one⟩
  | lf b a k d =>
    obtain ⟨h1, h2, h3, h4, h5, h6, h7, h8⟩ := h
    have p1 := pp (d - 0)
    have p2 := pp (d - 1)
    rcases step_cases hc with e | e | e | e <;> rw [e] <;> simp only [Fm.both, Fm.after, Fm.b, Fm.a, FLe]
    · exact ⟨h1, by omega, h3, by omega, h5, sm_up h6, by omega, by omega⟩
    · exact ⟨h1, by omega, h3, by omega, h5, sm_up h6, by omega, by omega⟩
    · refine ⟨h1, by omega, h3, by omega, ?_, sm_mul h6 (by omega) (by omega), by decide, by omega⟩
      rw [Int.mul_one]
      exact Int.mul_pos h5 (by omega)
    · refine ⟨h1, by omega, h3, by omega, ?_, sm_mul h6 (by omega) (by omega)⟩
      rw [Int.mul_one]
      exact Int.mul_pos h5 (by omega)
  | cr b a k =>
    obtain ⟨h1, h2, h3, h4, h5, h6⟩ := h
    rcases step_cases hc with e | e | e | e <;> rw [e] <;> simp only [Fm.both, FLe, Int.mul_one]
    · exact ⟨h1, by omega, h3, by omega, h5, sm_up h6⟩
    · exact ⟨h1, by omega, h3, by omega, h5, sm_up h6⟩
    · exact ⟨h1, by omega, h3, by omega, h5, sm_up h6, by decide, by omega⟩
    · exact ⟨h1, by omega, h3, by omega, h5, sm_up h6⟩
/-- the forms of the steps, and of no step -/
structure StepT (K : PySem.W.Frag) (w : World) (mg : Str → Option Value) (aN aS : Addr) : Prop where
  gN : mg "NOTHING" = some (.ref aN)
  n : ∀ H : Hp, FmAt K H (.ref aN) nothing
  gS : mg "STEP_FORMS" = some (.ref aS)
  s : ∀ c ∈ steps.cps.toList, ∃ v, KDct K w aS ⟨#[c]⟩ v ∧ ∀ H : Hp, FmAt K H v (stepF c)
theorem Same.own {H H' : Hp} {p : Addr} {o : HO} (s : Same H H') (n : H p = none) : Same H (upd H' p o) := fun b x e => by
  rw [upd_ne (ne_of_none e n)]
  exact s b x e
theorem SqT.lstUpd {K : PySem.W.Frag} {H : Hp} {a p : Addr} {xs ys : List V} {o : HO} (h : SqT K H a xs) (e : H p = some (.lst ys)) : SqT K (upd H p o) a xs := by
  have ne : ∀ o', H a = some o' → (∀ zs, o' ≠ .lst zs) → a ≠ p := fun o' h1 h2 z => by
    subst z
    rw [e] at h1
    exact h2 _ (Option.some.inj h1).symm
  rcases h with (h | ⟨q, h⟩) | h
  · exact .inl (.inl (by rw [upd_ne (ne _ h (fun zs z => by cases z))]; exact h))
  · exact .inl (.inr ⟨q, by rw [upd_ne (ne _ h (fun zs z => by cases z))]; exact h⟩)
  · exact .inr h
theorem Prs.lstUpd {K : PySem.W.Frag} {H : Hp} {p : Addr} {ys : List V} {o : HO} (e : H p = some (.lst ys)) : ∀ {vs : List V} {gs : List (Int × Int)}, Prs K H vs gs → Prs K (upd H p o) vs gs
  | _, _, .nil => .nil
  | _, _, .cons ⟨q, h1, h2⟩ t => .cons ⟨q, h1, by rw [upd_ne (ne_of h2 e (by intro z; cases z))]; exact h2⟩ (Prs.lstUpd e t)
theorem Prs.back {K : PySem.W.Frag} {H : Hp} : ∀ {vs : List V} {gs : List (Int × Int)} {x : Int × Int}, Prs K H vs (gs ++ [x]) → ∃ ws v, vs = ws ++ [v] ∧ Prs K H ws gs ∧ PrAt H v x
  | _, [], x, h => by
    cases h with
    | cons h1 t =>
      cases t
      exact ⟨[], _, rfl, .nil, h1⟩
  | _, g :: gs, x, h => by
    cases h with
    | cons h1 t =>
      obtain ⟨ws, v, rfl, a, b⟩ := Prs.back (gs := gs) t
      exact ⟨_ :: ws, v, rfl, .cons h1 a, b⟩
theorem snoc_or {α : Type} : ∀ l : List α, l = [] ∨ ∃ a x, l = a ++ [x]
  | [] => .inl rfl
  | x :: l => by
    rcases snoc_or l with rfl | ⟨a, y, rfl⟩
    · exact .inr ⟨[], x, rfl⟩
    · exact .inr ⟨x :: a, y, rfl⟩
theorem addTo_nil (x : Int × Int) : addTo [] x = [x] := rfl
theorem addTo_snoc (a : List (Int × Int)) (y x : Int × Int) : addTo (a ++ [y]) x = if y.2 = x.2 then a ++ [(y.1 + x.1, x.2)] else a ++ [y] ++ [x] := by
  unfold addTo
  rw [List.getLast?_concat]
  simp
theorem ixN_last {α : Type} (a : List α) (x : α) : ixN (a ++ [x]).length (-1) = some a.length := by
  unfold ixN
  simp
  omega
/-- numbers of groups that may be reckoned with -/
def RnSm (n : Nat) (r : List (Int × Int) × Int) : Prop := (∀ x ∈ r.1, 0 ≤ x.1 ∧ 0 ≤ x.2 ∧ Sm n x.1 ∧ Sm n x.2) ∧ 0 ≤ r.2 ∧ Sm n r.2 ∧ r.1.length ≤ 1000
theorem RnOk.sm {n : Nat} {r : List (Int × Int) × Int} (h : RnOk n r) : RnSm n r := ⟨fun x hx => by
  obtain ⟨i, hi⟩ := List.mem_iff_getElem?.mp hx
  obtain ⟨h1, h2, h3, h4, _⟩ := h.gs i x hi
  exact ⟨by omega, h2, h3, h4⟩, h.rest.1, h.rest.2, h.len⟩
theorem sum_mapV {gs : List (Int × Int)} {f : Fm} : ((gs.map fun x => x.1 * (f.after x.2 + 1))).sum = total (moved f gs) := by
  unfold total moved
  rw [List.map_map]
  rfl
theorem sum_sm {m : Nat} : ∀ (ts : List Int), (∀ t ∈ ts, 0 ≤ t ∧ Sm m t) → 0 ≤ ts.sum ∧ ts.sum ≤ ts.length * (2 ^ m : Nat)
  | [], _ => ⟨by decide, by simp⟩
  | t :: ts, h => by
    obtain ⟨h0, h1⟩ := h t (List.mem_cons_self ..)
    obtain ⟨i0, i1⟩ := sum_sm ts fun x hx => h x (List.mem_cons_of_mem _ hx)
    rw [List.sum_cons, List.length_cons]
    have e : ((ts.length + 1 : Nat) : Int) * (2 ^ m : Nat) = ts.length * (2 ^ m : Nat) + (2 ^ m : Nat) := by
      rw [Int.natCast_add, Int.add_mul]
      simp
    unfold Sm at h1
    rw [e]
    generalize ((ts.length : Nat) : Int) * (2 ^ m : Nat) = T at *
    generalize 2 ^ m = M at *
    omega
theorem units_ok {n : Nat} {r : List (Int × Int) × Int} {f : Fm} (h : RnSm n r) (hf : f.Ok n) : 0 ≤ units r f ∧ Sm (2 * n + 20) (units r f) := by
  have key : ∀ t ∈ (r.1.map fun x => x.1 * (f.after x.2 + 1)), 0 ≤ t ∧ Sm (2 * n + 4) t := by
    intro t ht
    obtain ⟨x, hx, rfl⟩ := List.mem_map.mp ht
    obtain ⟨x1, x2, x3, x4⟩ := h.1 x hx
    have hb := Fm.after_ok hf x2 x4
    have hb2 : Sm (n + 2) (f.after x.2 + 1) := hb.2.add (Nat.lt_of_lt_of_le (by decide : (1 : Int).natAbs < 2 ^ 1) (Nat.pow_le_pow_right (by decide) (by omega)))
    exact ⟨Int.mul_nonneg x1 (by have := hb.1; omega), (x3.mul hb2).mono (by omega)⟩
  obtain ⟨s0, s1⟩ := sum_sm _ key
  rw [sum_mapV] at s0 s1
  rw [List.length_map] at s1
  have hl := h.2.2.2
  have hr0 := h.2.1
  have hr1 : r.2.natAbs < 2 ^ n := h.2.2.1
  have e1 : (r.1.length : Int) * (2 ^ (2 * n + 4) : Nat) ≤ 1000 * (2 ^ (2 * n + 4) : Nat) := Int.mul_le_mul_of_nonneg_right (by omega) (Int.natCast_nonneg _)
  have e2 : 2 ^ (2 * n + 20) = 2 ^ (2 * n + 4) * 65536 := by rw [show 2 * n + 20 = (2 * n + 4) + 16 from rfl, Nat.pow_add]
  have e3 : 2 ^ n ≤ 2 ^ (2 * n + 4) := Nat.pow_le_pow_right (by decide) (by omega)
  unfold units Sm
  rw [e2]
  generalize total (moved f r.1) = T at *
  generalize (r.1.length : Int) * (2 ^ (2 * n + 4) : Nat) = U at *
  generalize 2 ^ (2 * n + 4) = M at *
  generalize 2 ^ n = N at *
  omega
/-- a run that has just been made -/
def NewRn (K : PySem.W.Frag) (H H' : Hp) (v : V) (r : List (Int × Int) × Int) : Prop :=
  ∃ p l xs, v = .ref p ∧ H p = none ∧ H l = none ∧ H' p = some (.tup [.ref l, .int r.2]) ∧ H' l = some (.lst xs) ∧ Prs K H' xs r.1
theorem RnSm.mono {n m : Nat} {r : List (Int × Int) × Int} (h : RnSm n r) (k : n ≤ m) : RnSm m r :=
  ⟨fun x hx => ⟨(h.1 x hx).1, (h.1 x hx).2.1, (h.1 x hx).2.2.1.mono k, (h.1 x hx).2.2.2.mono k⟩, h.2.1, h.2.2.1.mono k, h.2.2.2⟩
theorem NewRn.back {K : PySem.W.Frag} {H0 H H' : Hp} {v : V} {r : List (Int × Int) × Int} (s : Same H0 H) (h : NewRn K H H' v r) : NewRn K H0 H' v r := by
  obtain ⟨p, l, xs, h1, h2, h3, h4⟩ := h
  exact ⟨p, l, xs, h1, s.free h2, s.free h3, h4⟩
def CPowW (i j : Int) : Prop := 0 ≤ j ∧ j ≤ 64 ∧ i.natAbs < 2 ^ 200000
theorem op_powW {X : Cx} : OpR X (binaryOp .Pow) (rI CPowW fun i j => .int (i ^ j.toNat)) := opI fun i j _ _ _ _ _ hc q => by
  refine PyProof.Rows.pow_int hc.1 ?_ q
  have h1 := PySem.Flt.log2_lt_of (by decide : 0 < 200000) hc.2.2
  have h2 : Builtin.Int.intBits i ≤ i.natAbs.log2 + 1 := by
    unfold Builtin.Int.intBits
    split <;> omega
  have h3 : (Builtin.Int.intBits i : Int) ≤ 200000 := by omega
  have h4 := hc.2.1
  have h5 := hc.1
  have h6 : (Builtin.Int.intBits i : Int) * j ≤ 200000 * 64 := by
    refine Int.le_trans (Int.mul_le_mul_of_nonneg_right h3 h5) (Int.mul_le_mul_of_nonneg_left h4 (by decide))
  exact Int.le_trans h6 (by decide)
theorem fm {a b : Int} (hb : 0 < b) : 0 ≤ a.fmod b ∧ a.fmod b < b := by
  rw [Int.fmod_eq_emod_of_nonneg a (Int.le_of_lt hb)]
  exact ⟨Int.emod_nonneg a (by omega), Int.emod_lt_of_pos a hb⟩
theorem pow_sm {x : Int} (h0 : 0 ≤ x) (h : x < 2 ^ 200) {j : Int} (j0 : 0 ≤ j) (j1 : j ≤ 64) : CPowW x j := ⟨j0, j1, by
  have h1 : (x.natAbs : Int) < ((2 ^ 200 : Nat) : Int) := by
    rw [Int.natAbs_of_nonneg h0]
    exact h
  exact Nat.lt_of_lt_of_le (Int.ofNat_lt.mp h1) (Nat.pow_le_pow_right (by decide) (by decide))⟩
theorem cube_sm {x : Int} (h0 : 0 ≤ x) (h : x < 2147483648) : Sm 93 (x ^ Int.toNat 3) := by
  have e : x ^ Int.toNat 3 = x * x * x := by
    show x ^ 3 = _
    rw [Int.pow_succ, Int.pow_succ, Int.pow_succ, Int.pow_zero, Int.one_mul]
  have hx : Sm 31 x := by
    unfold Sm
    have : (2 : Nat) ^ 31 = 2147483648 := by decide
    omega
  rw [e]
  exact (hx.mul hx).mul hx
theorem p61 : (2 : Int) ^ Int.toNat 61 - 1 = 2305843009213693951 := by decide +kernel
theorem p61n : (2 : Int) ^ Int.toNat 61 - 1 ≠ 0 := by decide +kernel
theorem p61p : (0 : Int) < (2 : Int) ^ Int.toNat 61 - 1 := by decide +kernel
theorem p18n : (10 : Int) ^ Int.toNat 18 + 9 ≠ 0 := by decide +kernel
theorem while_fin {c : TT} {tb : TS} {D : Ends} {σ : St} {H : Hp} (Fin : St → Hp → Prop) (h : ∀ R : St → Hp → Prop, (∀ σ H, Fin σ H → R σ H) → tWhile c tb { D with nx := R } σ H) (hf : ∀ σ H, Fin σ H → D.nx σ H) : tWhile c tb D σ H := h D.nx hf
theorem dps {K : PySem.W.Frag} {H : Hp} : ∀ ds : List Int, DpAll K H (ds.map V.int) (ds.map PyData.int)
  | [] => .nil
  | d :: ds => .cons (.int d) (dps ds)
theorem shaped_ints (ds : List Int) : SeqAt.shaped (.list (ds.map .int)) = true := by
  have h1 : ∀ ds : List Int, PyData.canLayAll0 (ds.map .int) = true := fun ds => by
    induction ds with
    | nil => rfl
    | cons d ds ih => simp only [List.map_cons, PyData.canLayAll0, PyData.canLay0, ih, Bool.and_self]
  have h2 : ∀ ds : List Int, PyData.depthAll (ds.map .int) = 0 := fun ds => by
    induction ds with
    | nil => rfl
    | cons d ds ih => simp [PyData.depthAll, PyData.depth, ih]
  unfold SeqAt.shaped
  simp [PyData.canLay0, PyData.depth, h1, h2]
theorem p18 : (10 : Int) ^ Int.toNat 18 = 1000000000000000000 := by decide +kernel
def TT (K : PySem.W.Frag) (H : Hp) (a : Addr) : Prop := (∃ ys, H a = some (.tup ys)) ∨ (∃ o, K.lookup a = some o ∧ o.cls = .type "tuple") ∨ ∃ o ys, H a = some (.frz o (.tup ys))
mutual
inductive Dq (K : PySem.W.Frag) (H : Hp) : V → PyData → Prop
  | non : Dq K H .non .none
  | bl (b : Bool) : Dq K H (.bl b) (.bool b)
  | int (i : Int) : Dq K H (.int i) (.int i)
  | str (x : Str) : Dq K H (.str x) (.str x)
  | lst {a : Addr} {xs : List V} {ds : List PyData} : H a = some (.lst xs) → DqAll K H xs ds → Dq K H (.ref a) (.list ds)
  | tup {a : Addr} {xs : List V} {ds : List PyData} : TT K H a → SqT K H a xs → DqAll K H xs ds → Dq K H (.ref a) (.tuple ds)
inductive DqAll (K : PySem.W.Frag) (H : Hp) : List V → List PyData → Prop
  | nil : DqAll K H [] []
  | cons {v : V} {vs : List V} {d : PyData} {ds : List PyData} : Dq K H v d → DqAll K H vs ds → DqAll K H (v :: vs) (d :: ds)
end
theorem TT.ty {K : PySem.W.Frag} {H : Hp} {a : Addr} : TT K H a → TyX K H (.ref a) (.type "tuple")
  | .inl ⟨_, h⟩ => .base (.tup h)
  | .inr (.inl ⟨_, h, c⟩) => .kTuple h c
  | .inr (.inr ⟨_, _, h⟩) => .fTuple h
theorem SqT.tt {K : PySem.W.Frag} {H : Hp} {a : Addr} {xs : List V} : SqT K H a xs → TT K H a
  | .inl (.inl h) => .inl ⟨_, h⟩
  | .inl (.inr ⟨_, h⟩) => .inr (.inr ⟨_, _, h⟩)
  | .inr ⟨_, _, _, h, c, _⟩ => .inr (.inl ⟨_, h, c⟩)
theorem TT.same {K : PySem.W.Frag} {H H' : Hp} {a : Addr} (s : Same H H') : TT K H a → TT K H' a
  | .inl ⟨ys, h⟩ => .inl ⟨ys, s _ _ h⟩
  | .inr (.inl h) => .inr (.inl h)
  | .inr (.inr ⟨o, ys, h⟩) => .inr (.inr ⟨o, ys, s _ _ h⟩)
mutual
theorem Dq.same {K : PySem.W.Frag} {H H' : Hp} (s : Same H H') : ∀ {v : V} {d : PyData}, Dq K H v d → Dq K H' v d
  | _, _, .non => .non
  | _, _, .bl b => .bl b
  | _, _, .int i => .int i
  | _, _, .str x => .str x
  | _, _, .lst h t => .lst (s _ _ h) (DqAll.same s t)
  | _, _, .tup h1 h2 t => .tup (h1.same s) (sameT s h2) (DqAll.same s t)
theorem DqAll.same {K : PySem.W.Frag} {H H' : Hp} (s : Same H H') : ∀ {vs : List V} {ds : List PyData}, DqAll K H vs ds → DqAll K H' vs ds
  | _, _, .nil => .nil
  | _, _, .cons h t => .cons (Dq.same s h) (DqAll.same s t)
end
mutual
theorem Dq.dp {K : PySem.W.Frag} {H : Hp} : ∀ {v : V} {d : PyData}, Dq K H v d → Dp K H v d
  | _, _, .non => .non
  | _, _, .bl b => .bl b
  | _, _, .int i => .int i
  | _, _, .str x => .str x
  | _, _, .lst h t => .lst (.inl (.inl h)) (DqAll.dp t)
  | _, _, .tup _ h2 t => .tup h2 (DqAll.dp t)
theorem DqAll.dp {K : PySem.W.Frag} {H : Hp} : ∀ {vs : List V} {ds : List PyData}, DqAll K H vs ds → DpAll K H vs ds
  | _, _, .nil => .nil
  | _, _, .cons h t => .cons (Dq.dp h) (DqAll.dp t)
end
theorem DqAll.len {K : PySem.W.Frag} {H : Hp} : ∀ {vs : List V} {ds : List PyData}, DqAll K H vs ds → vs.length = ds.length
  | _, _, .nil => rfl
  | _, _, .cons _ t => by rw [List.length_cons, List.length_cons, DqAll.len t]
theorem DqAll.get {K : PySem.W.Frag} {H : Hp} : ∀ {vs : List V} {ds : List PyData}, DqAll K H vs ds → ∀ {i : Nat} {d : PyData}, ds[i]? = some d → ∃ v, vs[i]? = some v ∧ Dq K H v d
  | _, _, .nil, i, d, h => by simp at h
  | _, _, .cons h1 t, 0, d, h => by
    have e := Option.some.inj h
    subst e
    exact ⟨_, rfl, h1⟩
  | _, _, .cons h1 t, i + 1, d, h => DqAll.get t (i := i) h
mutual
def wd : PyData → Bool
  | .list xs | .tuple xs => decide (xs.length ≤ 5000) && wdAll xs
  | _ => true
def wdAll : List PyData → Bool
  | [] => true
  | x :: xs => wd x && wdAll xs
end
theorem wd_get : ∀ (xs : List PyData) (i : Nat) (x : PyData), wdAll xs = true → xs[i]? = some x → wd x = true
  | [], i, x, _, h => by simp at h
  | y :: ys, 0, x, h, e => by
    cases Option.some.inj e
    simp only [wdAll, Bool.and_eq_true] at h
    exact h.1
  | y :: ys, i + 1, x, h, e => by
    simp only [wdAll, Bool.and_eq_true] at h
    exact wd_get ys i x h.2 e
theorem depth_mem : ∀ (xs : List PyData) (i : Nat) (x : PyData), xs[i]? = some x → PyData.depth x ≤ PyData.depthAll xs := fun xs i x h => PyData.depth_le_depthAll xs x (List.mem_of_getElem? h)
def rIxA (K : PySem.W.Frag) : R2 := fun x y H Q => rIxL K x y H Q ∨ rIxT K x y H Q
theorem ix_any {X : Cx} {K : PySem.W.Frag} (h : X.K = K) : IxR X (rIxA K) := by
  subst h
  exact ix_list.or ix_tup
theorem ixA {K : PySem.W.Frag} {H H' : Hp} {a : Addr} {xs : List V} {j : Int} {i : Nat} {v : V} {Q : VK} (sm : Same H H') (h : SqL K H a xs ∨ SqT K H a xs) (e : j = i) (hv : xs[i]? = some v) (q : Q v H') : rIxA K (.ref a) (.int j) H' Q := by
  subst e
  rcases h with h | h
  · exact .inl ⟨a, xs, _, v, rfl, rfl, sm.seq h, atI_nat hv, q⟩
  · exact .inr ⟨a, xs, _, v, rfl, rfl, sameT sm h, atI_nat hv, q⟩
theorem ix_l {X : Cx} {K : PySem.W.Frag} (h : X.K = K) : IxR X (rIxL K) := by
  subst h
  exact ix_list
theorem far_sm {far : Int} (h0 : 4 ≤ far) (h : far < 2 ^ 97) : far.natAbs < 2 ^ 4000 := by
  have e : far.natAbs < 2 ^ 97 := by omega
  exact Nat.lt_of_lt_of_le e (Nat.pow_le_pow_right (by decide) (by decide))
def pd (gs : List (Int × Int)) : List PyData := gs.map fun x => .tuple [.int x.1, .int x.2]
theorem Prs.dp {K : PySem.W.Frag} {H : Hp} : ∀ {vs : List V} {gs : List (Int × Int)}, Prs K H vs gs → DpAll K H vs (pd gs)
  | _, _, .nil => .nil
  | _, _, .cons ⟨p, e, h⟩ t => by
    subst e
    exact .cons (.tup (.inl (.inl h)) (.cons (.int _) (.cons (.int _) .nil))) (Prs.dp t)
theorem pd_lay (gs : List (Int × Int)) : PyData.canLayAll0 (pd gs) = true := by
  unfold pd
  induction gs with
  | nil => rfl
  | cons g gs ih => simp only [List.map_cons, PyData.canLayAll0, PyData.canLay0, ih, Bool.and_self]
theorem pd_depth (gs : List (Int × Int)) : PyData.depthAll (pd gs) ≤ 1 := by
  unfold pd
  induction gs with
  | nil => simp [PyData.depthAll]
  | cons g gs ih =>
    simp only [List.map_cons, PyData.depthAll, PyData.depth]
    omega
theorem pd_shaped (gs : List (Int × Int)) : SeqAt.shaped (.list (pd gs)) = true := by
  have := pd_depth gs
  unfold SeqAt.shaped
  simp only [PyData.canLay0, pd_lay, PyData.depth, Bool.true_and]
  exact decide_eq_true (by omega)
theorem gsok_snoc {n : Nat} {gs : List (Int × Int)} {x : Int × Int} (h : GsOk n gs) (hl : ∀ a y, gs = a ++ [y] → y.2 ≠ x.2) (hx : 1 ≤ x.1 ∧ 0 ≤ x.2 ∧ Sm n x.1 ∧ Sm n x.2) : GsOk n (gs ++ [x]) := by
  intro i z hz
  by_cases hi : i < gs.length
  · rw [List.getElem?_append_left hi] at hz
    obtain ⟨h1, h2, h3, h4, h5⟩ := h i z hz
    refine ⟨h1, h2, h3, h4, fun y hy => ?_⟩
    by_cases hj : i + 1 < gs.length
    · rw [List.getElem?_append_left hj] at hy
      exact h5 y hy
    · have e : i + 1 = gs.length := by omega
      rw [e, List.getElem?_append_right (Nat.le_refl _), Nat.sub_self] at hy
      cases Option.some.inj hy
      rcases snoc_or gs with rfl | ⟨a, y', rfl⟩
      · simp at hi
      · have ea : i = a.length := by
          simp at e
          omega
        subst ea
        simp at hz
        subst hz
        exact Ne.symm (hl a y' rfl)
  · have hle : gs.length ≤ i := by omega
    rw [List.getElem?_append_right hle] at hz
    have e : i - gs.length = 0 := by
      have := (List.getElem?_eq_some_iff.mp hz).1
      simp at this
      omega
    rw [e] at hz
    cases Option.some.inj hz
    refine ⟨hx.1, hx.2.1, hx.2.2.1, hx.2.2.2, fun y hy => ?_⟩
    have := (List.getElem?_eq_some_iff.mp hy).1
    simp at this
    omega
def sameEnd (gs : List (Int × Int)) (j : Int) : Bool := match gs.getLast? with
  | some y => decide (y.2 = j)
  | none => false
theorem sameEnd_snoc (a : List (Int × Int)) (y : Int × Int) (j : Int) : sameEnd (a ++ [y]) j = decide (y.2 = j) := by
  unfold sameEnd
  rw [List.getLast?_concat]
theorem if_by {c : L2.TT} {A B : TS} {D : Ends} {σ : St} {H : Hp} (b : Bool) (R : Hp → Prop) (hc : ∀ K : Bool → Hp → Prop, (∀ H1, R H1 → K b H1) → c σ H K) (h : ∀ H1, R H1 → if b = true then A D σ H1 else B D σ H1) : tIfS c A B D σ H := hc _ h
theorem ix_t {X : Cx} {K : PySem.W.Frag} (h : X.K = K) : IxR X (rIxT K) := by
  subst h
  exact ix_tup
theorem gsok_front {n : Nat} {a : List (Int × Int)} {y : Int × Int} (h : GsOk n (a ++ [y])) : GsOk n a ∧ (∀ a' z, a = a' ++ [z] → z.2 ≠ y.2) ∧ 1 ≤ y.1 ∧ 0 ≤ y.2 := by
  refine ⟨fun i x hx => ?_, fun a' z e => ?_, ?_⟩
  · have hi := (List.getElem?_eq_some_iff.mp hx).1
    obtain ⟨h1, h2, h3, h4, h5⟩ := h i x (by rw [List.getElem?_append_left hi]; exact hx)
    refine ⟨h1, h2, h3, h4, fun w hw => ?_⟩
    have hi2 := (List.getElem?_eq_some_iff.mp hw).1
    exact h5 w (by rw [List.getElem?_append_left hi2]; exact hw)
  · subst e
    have := (h a'.length z (by simp)).2.2.2.2 y (by simp)
    exact fun q => this q.symm
  · have := h a.length y (by simp)
    exact ⟨this.1, this.2.1⟩
def MI (n t : Nat) (acc : List (Int × Int)) : Prop := GsOk (n + 11) acc ∧ (∀ x ∈ acc, x.1 ≤ (t : Int) * (2 ^ n : Nat)) ∧ acc.length ≤ t
theorem mi_sm {n t : Nat} {x : Int} (ht : t ≤ 1000) (h0 : 0 ≤ x) (h : x ≤ (t : Int) * (2 ^ n : Nat)) : Sm (n + 11) x := by
  have e : 2 ^ (n + 11) = 2 ^ n * 2048 := Nat.pow_add 2 n 11
  have e2 : (t : Int) * (2 ^ n : Nat) ≤ 1000 * (2 ^ n : Nat) := Int.mul_le_mul_of_nonneg_right (by omega) (Int.natCast_nonneg _)
  have e3 : 0 < 2 ^ n := Nat.two_pow_pos n
  unfold Sm
  rw [e]
  generalize (t : Int) * (2 ^ n : Nat) = T at *
  generalize 2 ^ n = M at *
  omega
theorem mi_step {n t : Nat} (ht : t < 1000) {acc : List (Int × Int)} {x : Int × Int} (h : MI n t acc) (x1 : 1 ≤ x.1) (x2 : Sm n x.1) (x3 : 0 ≤ x.2) (x4 : Sm (n + 1) x.2) : MI n (t + 1) (addTo acc x) := by
  obtain ⟨h1, h2, h3⟩ := h
  have hM : ((t + 1 : Nat) : Int) * (2 ^ n : Nat) = (t : Int) * (2 ^ n : Nat) + (2 ^ n : Nat) := by
    rw [Int.natCast_add, Int.add_mul]
    simp
  have hx : x.1 < (2 ^ n : Nat) := by
    unfold Sm at x2
    omega
  have ht0 : 0 ≤ (t : Int) * (2 ^ n : Nat) := Int.mul_nonneg (by omega) (Int.natCast_nonneg _)
  have up : ∀ y ∈ acc, y.1 ≤ ((t + 1 : Nat) : Int) * (2 ^ n : Nat) := fun y hy => by
    have := h2 y hy
    omega
  have xs : Sm (n + 11) x.1 := x2.mono (by omega)
  rcases snoc_or acc with rfl | ⟨a, y, rfl⟩
  · refine ⟨gsok_snoc (gs := []) (fun i z hz => by simp at hz) (fun a y e => by simp at e) ⟨x1, x3, xs, x4.mono (by omega)⟩, fun y hy => ?_, by show 1 ≤ t + 1; omega⟩
    have hy' : y = x := List.mem_singleton.mp hy
    rw [hy', hM]
    omega
  · rw [addTo_snoc]
    by_cases ey : y.2 = x.2
    · rw [if_pos ey]
      obtain ⟨g1, g2, g3, g4⟩ := gsok_front h1
      have hy1 := h2 y (by simp)
      have hs : y.1 + x.1 ≤ ((t + 1 : Nat) : Int) * (2 ^ n : Nat) := by omega
      refine ⟨gsok_snoc g1 (fun a' z e => by show z.2 ≠ x.2; rw [← ey]; exact g2 a' z e) ⟨by show 1 ≤ y.1 + x.1; omega, x3, mi_sm (t := t + 1) (by omega) (by show 0 ≤ y.1 + x.1; omega) hs, x4.mono (by omega)⟩, fun z hz => ?_, by simp only [List.length_append, List.length_cons, List.length_nil] at h3 ⊢; omega⟩
      rcases List.mem_append.mp hz with q | q
      · exact up z (List.mem_append.mpr (.inl q))
      · rw [List.mem_singleton.mp q]
        exact hs
    · rw [if_neg ey]
      refine ⟨gsok_snoc h1 (fun a' z e => by
        have := (List.append_inj' e rfl).2
        cases this
        exact ey) ⟨x1, x3, xs, x4.mono (by omega)⟩, fun z hz => ?_, by simp only [List.length_append, List.length_cons, List.length_nil] at h3 ⊢; omega⟩
      rcases List.mem_append.mp hz with q | q
      · exact up z q
      · rw [List.mem_singleton.mp q, hM]
        omega
theorem mi_fold {n : Nat} : ∀ (gs acc : List (Int × Int)) (t : Nat), t + gs.length ≤ 1000 → (∀ x ∈ gs, 1 ≤ x.1 ∧ Sm n x.1 ∧ 0 ≤ x.2 ∧ Sm (n + 1) x.2) → MI n t acc → MI n (t + gs.length) (gs.foldl addTo acc)
  | [], acc, t, _, _, h => h
  | g :: gs, acc, t, hl, hg, h => by
    have hl' : t + (gs.length + 1) ≤ 1000 := hl
    obtain ⟨g1, g2, g3, g4⟩ := hg g (List.mem_cons_self ..)
    have e := mi_fold gs (addTo acc g) (t + 1) (by omega) (fun x hx => hg x (List.mem_cons_of_mem _ hx)) (mi_step (by omega) h g1 g2 g3 g4)
    have e2 : t + 1 + gs.length = t + (g :: gs).length := by simp; omega
    rw [e2] at e
    exact e
theorem runAfter_ok {n : Nat} {r : List (Int × Int) × Int} {f : Fm} (h : RnOk n r) (hf : f.Ok n) : RnOk (3 * n + 40) (runAfter r f) := by
  have hu := units_ok (RnOk.sm h) hf
  cases f with
  | keep b a =>
    have m := mi_fold (n := n) (moved (.keep b a) r.1) [] 0 (by unfold moved; rw [List.length_map]; have := h.len; omega) (fun x hx => by
      obtain ⟨y, hy, rfl⟩ := List.mem_map.mp hx
      obtain ⟨i, hi⟩ := List.mem_iff_getElem?.mp hy
      obtain ⟨y1, y2, y3, y4, _⟩ := h.gs i y hi
      have := Fm.after_ok hf y2 y4
      exact ⟨y1, y3, this.1, this.2⟩) ⟨(fun i x hx => by simp at hx), (fun x hx => by cases hx), Nat.le_refl _⟩
    obtain ⟨m1, m2, m3⟩ := m
    refine ⟨fun i x hx => ?_, ⟨h.rest.1, h.rest.2.mono (by omega)⟩, ?_⟩
    · obtain ⟨q1, q2, q3, q4, q5⟩ := m1 i x hx
      exact ⟨q1, q2, q3.mono (by omega), q4.mono (by omega), q5⟩
    · have e : (moved (.keep b a) r.1).length = r.1.length := List.length_map ..
      have := h.len
      show (Lx.merged (moved (.keep b a) r.1)).length ≤ 1000
      unfold Lx.merged
      omega
  | lf b a k c =>
    by_cases z : k * units r (.lf b a k c) = 0
    · rw [show runAfter r (.lf b a k c) = ([], 0) from if_pos z]
      exact ⟨fun i x hx => by simp at hx, ⟨by decide, Nat.two_pow_pos _⟩, Nat.zero_le _⟩
    · rw [show runAfter r (.lf b a k c) = ([(k * units r (.lf b a k c), c)], 0) from if_neg z]
      have hp := Int.mul_nonneg (Int.le_of_lt hf.2.2.1) hu.1
      have hs := hf.2.2.2.2.2.2.1.mul hu.2
      exact ⟨gsok_snoc (gs := []) (fun i x hx => by simp at hx) (fun a y e => by simp at e) ⟨by show 1 ≤ k * units r (.lf b a k c); omega, hf.2.2.2.1, hs.mono (by omega), hf.2.2.2.2.2.2.2.mono (by omega)⟩, ⟨(by decide : (0 : Int) ≤ 0), Nat.two_pow_pos _⟩, by show 1 ≤ 1000; decide⟩
  | cr b a k =>
    have hs := hf.2.2.2.2.2.mul hu.2
    exact ⟨fun i x hx => by simp [runAfter] at hx, ⟨Int.mul_nonneg (Int.le_of_lt hf.2.2.1) hu.1, hs.mono (by omega)⟩, Nat.zero_le _⟩
theorem units_nothing {n : Nat} {r : List (Int × Int) × Int} (h : RnSm n r) : (r.1.map fun x => x.1 * (x.2 + 1)).sum + r.2 = units r nothing := by
  have e : moved nothing r.1 = r.1 := by
    unfold moved
    have : ∀ gs : List (Int × Int), (∀ x ∈ gs, 0 ≤ x.2) → gs.map (fun x => (x.1, nothing.after x.2)) = gs := by
      intro gs
      induction gs with
      | nil => intro _; rfl
      | cons g gs ih =>
        intro hg
        have h0 := hg g (List.mem_cons_self ..)
        have e0 : nothing.after g.2 = g.2 := by
          show (if g.2 - 0 > 0 then g.2 - 0 else 0) + 0 = g.2
          have := pp (g.2 - 0)
          omega
        rw [List.map_cons, ih fun x hx => hg x (List.mem_cons_of_mem _ hx), e0]
    exact this r.1 fun x hx => (h.1 x hx).2.1
  unfold units
  rw [e]
  rfl
def RnS (K : PySem.W.Frag) (H : Hp) (v : V) (l : Addr) (g : List (Int × Int) × Int) : Prop := ∃ p xs, v = .ref p ∧ H p = some (.tup [.ref l, .int g.2]) ∧ H l = some (.lst xs) ∧ Prs K H xs g.1
theorem NewRn.s {K : PySem.W.Frag} {H H' : Hp} {v : V} {g : List (Int × Int) × Int} : NewRn K H H' v g → ∃ l, H l = none ∧ RnS K H' v l g := fun ⟨p, l, xs, h1, h2, h3, h4, h5, h6⟩ => ⟨l, h3, p, xs, h1, h4, h5, h6⟩
theorem RnS.same {K : PySem.W.Frag} {H H' : Hp} {v : V} {l : Addr} {g : List (Int × Int) × Int} (s : Same H H') : RnS K H v l g → RnS K H' v l g := fun ⟨p, xs, h1, h2, h3, h4⟩ => ⟨p, xs, h1, s _ _ h2, s _ _ h3, h4.same s⟩
theorem RnS.rn {K : PySem.W.Frag} {H : Hp} {v : V} {l : Addr} {g : List (Int × Int) × Int} : RnS K H v l g → RnAt K H v l g := fun ⟨p, xs, h1, h2, h3, h4⟩ => ⟨p, h1, .inl (.inl h2), xs, .inl (.inl h3), h4⟩
theorem RnS.upd {K : PySem.W.Frag} {H : Hp} {v : V} {l l2 : Addr} {g : List (Int × Int) × Int} {ys : List V} {o : HO} (e : H l2 = some (.lst ys)) (ne : l ≠ l2) : RnS K H v l g → RnS K (upd H l2 o) v l g :=
  fun ⟨p, xs, h1, h2, h3, h4⟩ => ⟨p, xs, h1, by rw [upd_ne (ne_of h2 e (by intro z; cases z))]; exact h2, by rw [upd_ne ne]; exact h3, Prs.lstUpd e h4⟩
theorem RnS.ne {K : PySem.W.Frag} {H : Hp} {v : V} {l p : Addr} {g : List (Int × Int) × Int} (h : RnS K H v l g) (n : H p = none) : l ≠ p := by
  obtain ⟨_, _, _, _, h3, _⟩ := h
  exact ne_of_none h3 n
def rd (g : List (Int × Int) × Int) : PyData := .tuple [.list (pd g.1), .int g.2]
theorem Prs.dq {K : PySem.W.Frag} {H : Hp} : ∀ {vs : List V} {gs : List (Int × Int)}, Prs K H vs gs → DqAll K H vs (pd gs)
  | _, _, .nil => .nil
  | _, _, .cons ⟨p, e, h⟩ t => by
    subst e
    exact .cons (.tup (.inl ⟨_, h⟩) (.inl (.inl h)) (.cons (.int _) (.cons (.int _) .nil))) (Prs.dq t)
theorem RnS.dq {K : PySem.W.Frag} {H : Hp} {v : V} {l : Addr} {g : List (Int × Int) × Int} : RnS K H v l g → Dq K H v (rd g) := fun ⟨p, xs, h1, h2, h3, h4⟩ => by
  subst h1
  exact .tup (.inl ⟨_, h2⟩) (.inl (.inl h2)) (.cons (.lst h3 (Prs.dq h4)) (.cons (.int _) .nil))
def fdt : Fm → PyData
  | .keep b a => .tuple [.str "keep", .int b, .int a]
  | .lf b a k c => .tuple [.str "lf", .int b, .int a, .int k, .int c]
  | .cr b a k => .tuple [.str "cr", .int b, .int a, .int k]
theorem fm_dq {K : PySem.W.Frag} {H : Hp} {p : Addr} {f : Fm} (h : H p = some (.tup f.vs)) : Dq K H (.ref p) (fdt f) := by
  cases f with
  | keep b a => exact .tup (.inl ⟨_, h⟩) (.inl (.inl h)) (.cons (.str _) (.cons (.int _) (.cons (.int _) .nil)))
  | lf b a k c => exact .tup (.inl ⟨_, h⟩) (.inl (.inl h)) (.cons (.str _) (.cons (.int _) (.cons (.int _) (.cons (.int _) (.cons (.int _) .nil)))))
  | cr b a k => exact .tup (.inl ⟨_, h⟩) (.inl (.inl h)) (.cons (.str _) (.cons (.int _) (.cons (.int _) (.cons (.int _) .nil))))
theorem rd_shaped (g : List (Int × Int) × Int) : SeqAt.shaped (rd g) = true := by
  have := pd_depth g.1
  unfold SeqAt.shaped rd
  simp only [PyData.canLay0, PyData.canLayAll0, pd_lay, PyData.depth, PyData.depthAll, Bool.true_and, Bool.and_true]
  exact decide_eq_true (by omega)
theorem pd_wd (gs : List (Int × Int)) : wdAll (pd gs) = true := by
  unfold pd
  induction gs with
  | nil => rfl
  | cons g gs ih => simp only [List.map_cons, wdAll, wd, ih, Bool.and_true, List.length_cons, List.length_nil, Bool.and_self, decide_true]; exact decide_eq_true (by omega)
theorem rd_wd {g : List (Int × Int) × Int} (h : g.1.length ≤ 1000) : wd (rd g) = true := by
  have e : (pd g.1).length = g.1.length := List.length_map ..
  unfold rd
  simp only [wd, wdAll, pd_wd, List.length_cons, List.length_nil, Bool.and_true]
  rw [decide_eq_true (by omega : (pd g.1).length ≤ 5000)]
  simp
theorem rd_depth (g : List (Int × Int) × Int) : (rd g).depth ≤ 3 := by
  have := pd_depth g.1
  unfold rd
  simp only [PyData.depth, PyData.depthAll]
  omega
def shw (g : List (Int × Int) × Int) (f : Fm) : PyData := .list [rd g, fdt f]
theorem sm400 {x : Int} (h : Sm 100 x) : x.natAbs < 2 ^ 400 := Nat.lt_of_lt_of_le h (Nat.pow_le_pow_right (by decide) (by decide))
theorem pd_small : ∀ (gs : List (Int × Int)), (∀ x ∈ gs, Sm 100 x.1 ∧ Sm 100 x.2) → small.smallAll (pd gs) = true
  | [], _ => rfl
  | g :: gs, h => by
    have h1 := h g (List.mem_cons_self ..)
    have ih := pd_small gs fun x hx => h x (List.mem_cons_of_mem _ hx)
    unfold pd at ih ⊢
    simp only [List.map_cons, small.smallAll, small, ih, Bool.and_true]
    rw [decide_eq_true (sm400 h1.1), decide_eq_true (sm400 h1.2)]
    rfl
theorem pd_bulk (gs : List (Int × Int)) : PyData.bulkAll (pd gs) ≤ 20 * gs.length := by
  unfold pd
  induction gs with
  | nil => exact Nat.le_refl _
  | cons g gs ih =>
    simp only [List.map_cons, PyData.bulkAll, PyData.bulk, List.length_cons]
    omega
theorem fdt_small {f : Fm} (h : f.Ok 100) : small (fdt f) = true := by
  cases f with
  | keep b a =>
    obtain ⟨_, _, h1, h2⟩ := h
    simp only [fdt, small, small.smallAll]
    rw [decide_eq_true (sm400 h1), decide_eq_true (sm400 h2)]
    decide
  | lf b a k c =>
    obtain ⟨_, _, _, _, h1, h2, h3, h4⟩ := h
    simp only [fdt, small, small.smallAll]
    rw [decide_eq_true (sm400 h1), decide_eq_true (sm400 h2), decide_eq_true (sm400 h3), decide_eq_true (sm400 h4)]
    decide
  | cr b a k =>
    obtain ⟨_, _, _, h1, h2, h3⟩ := h
    simp only [fdt, small, small.smallAll]
    rw [decide_eq_true (sm400 h1), decide_eq_true (sm400 h2), decide_eq_true (sm400 h3)]
    decide
theorem shw_fit {g : List (Int × Int) × Int} {f : Fm} (h : RnOk 100 g) (hf : f.Ok 100) : Fit (shw g f) := by
  refine fit_small ?_ ?_ ?_
  · have e1 := pd_small g.1 fun x hx => by
      obtain ⟨i, hi⟩ := List.mem_iff_getElem?.mp hx
      exact ⟨(h.gs i x hi).2.2.1, (h.gs i x hi).2.2.2.1⟩
    unfold shw rd
    simp only [small, small.smallAll, e1, fdt_small hf, Bool.and_true, Bool.true_and]
    exact decide_eq_true (sm400 h.rest.2)
  · have e := rd_depth g
    have e2 : (fdt f).depth ≤ 1 := by cases f <;> simp [fdt, PyData.depth, PyData.depthAll]
    unfold shw
    simp only [PyData.depth, PyData.depthAll]
    omega
  · have e := pd_bulk g.1
    have e2 : (fdt f).bulk ≤ 200 := by cases f <;> (simp [fdt, PyData.bulk, PyData.bulkAll]; decide)
    have e3 := h.len
    unfold shw rd
    simp only [PyData.bulk, PyData.bulkAll]
    omega
/-- a def that is called by its name -/
structure Cl (P : Program) (w : World) (K : PySem.W.Frag) (mg : Str → Option Value) (base : Heap) (k : Nat) (nm : Str) (ps : List Str) (sp : Sp) (f : Addr) (fd : FuncData) : Prop where
  G : FnOk P w K mg base CX0 k f fd ps sp
  kp : PySem.W.keepIn K (.ref f) = true
  b : Binds K fd ps []
  g : mg nm = some (.ref f)
theorem upd_keep {H : Hp} {t l b : Addr} {o1 o2 o : HO} (nt : H t = none) (ne : b ≠ l) (h : H b = some o) : upd (upd H t o1) l o2 b = some o := by
  rw [upd_ne ne, upd_ne (ne_of_none h nt)]
  exact h
end Lw
namespace Lx
open PySem PySem.Spec L2
/-! ### data that repr can write -/
/-- ints below 2 ^ 400, texts of plain signs -/
def smallB (b : Nat) : PyData → Bool
  | .none | .bool _ => true
  | .int i => decide (i.natAbs < 2 ^ b)
  | .str x => x.cps.toList.all fun c => decide (c < 128)
  | .list xs | .tuple xs => smallAll xs
  | .dict _ => false
where smallAll : List PyData → Bool
  | [] => true
  | x :: xs => smallB b x && smallAll xs
theorem intB_log {b : Nat} (h0 : 0 < b) {i : Int} (h : i.natAbs < 2 ^ b) : i.natAbs.log2 < b := PySem.Flt.log2_lt_of h0 h
theorem intB_shown {b : Nat} (h0 : 0 < b) {i : Int} (h : i.natAbs < 2 ^ b) : (PyData.shown (.int i)).length ≤ b + 1 := by
  have e := int_text_length_le (k := b) h0 (intB_log h0 h)
  show (Str.ofString (toString i)).length ≤ b + 1
  rw [ofString_length]
  omega
mutual
theorem smallB_can {b : Nat} (h0 : 0 < b) (h1 : b ≤ 1900) : ∀ d : PyData, smallB b d = true → d.showable = true
  | .none, _ => rfl
  | .bool _, _ => rfl
  | .int i, h => by
    have e := intB_log h0 (of_decide_eq_true (show decide (i.natAbs < 2 ^ b) = true by simpa only [smallB] using h))
    simp only [PyData.showable]
    exact decide_eq_true (by omega)
  | .str _, _ => rfl
  | .list xs, h => by
    simp only [PyData.showable]
    exact smallB_canAll h0 h1 xs (by simpa only [smallB] using h)
  | .tuple xs, h => by
    simp only [PyData.showable]
    exact smallB_canAll h0 h1 xs (by simpa only [smallB] using h)
  | .dict _, h => by simp [smallB] at h
theorem smallB_canAll {b : Nat} (h0 : 0 < b) (h1 : b ≤ 1900) : ∀ xs : List PyData, smallB.smallAll b xs = true → PyData.showableAll xs = true
  | [], _ => rfl
  | x :: xs, h => by
    have h' : smallB b x = true ∧ smallB.smallAll b xs = true := by simpa only [smallB.smallAll, Bool.and_eq_true] using h
    simp only [PyData.showableAll, Bool.and_eq_true]
    exact ⟨smallB_can h0 h1 x h'.1, smallB_canAll h0 h1 xs h'.2⟩
end
mutual
theorem smallB_no {b : Nat} : ∀ d : PyData, smallB b d = true → d.hasDict = false
  | .none, _ => rfl
  | .bool _, _ => rfl
  | .int i, h => rfl
  | .str _, _ => rfl
  | .list xs, h => by
    simp only [PyData.hasDict]
    exact smallB_noAll xs (by simpa only [smallB] using h)
  | .tuple xs, h => by
    simp only [PyData.hasDict]
    exact smallB_noAll xs (by simpa only [smallB] using h)
  | .dict _, h => by simp [smallB] at h
theorem smallB_noAll {b : Nat} : ∀ xs : List PyData, smallB.smallAll b xs = true → PyData.hasDictAll xs = false
  | [], _ => rfl
  | x :: xs, h => by
    have h' : smallB b x = true ∧ smallB.smallAll b xs = true := by simpa only [smallB.smallAll, Bool.and_eq_true] using h
    simp only [PyData.hasDictAll, Bool.or_eq_false_iff]
    exact ⟨smallB_no x h'.1, smallB_noAll xs h'.2⟩
end
mutual
theorem smallB_leaves {b : Nat} (h0 : 0 < b) (h8 : 8 ≤ b) : ∀ d : PyData, smallB b d = true → d.leavesShort (b + 1) = true
  | .none, _ => rfl
  | .bool _, _ => rfl
  | .int i, h => by
    have e := intB_shown h0 (of_decide_eq_true (show decide (i.natAbs < 2 ^ b) = true by simpa only [smallB] using h))
    simp only [PyData.leavesShort]
    exact decide_eq_true e
  | .str x, h => by
    simp only [PyData.leavesShort, List.all_eq_true, decide_eq_true_eq]
    simp only [smallB, List.all_eq_true, decide_eq_true_eq] at h
    intro c hc
    exact Nat.lt_of_lt_of_le (h c hc) (by decide)
  | .list xs, h => by
    simp only [PyData.leavesShort]
    exact smallB_leavesAll h0 h8 xs (by simpa only [smallB] using h)
  | .tuple xs, h => by
    simp only [PyData.leavesShort]
    exact smallB_leavesAll h0 h8 xs (by simpa only [smallB] using h)
  | .dict _, h => by simp [smallB] at h
theorem smallB_leavesAll {b : Nat} (h0 : 0 < b) (h8 : 8 ≤ b) : ∀ xs : List PyData, smallB.smallAll b xs = true → PyData.leavesShortAll (b + 1) xs = true
  | [], _ => rfl
  | x :: xs, h => by
    have h' : smallB b x = true ∧ smallB.smallAll b xs = true := by simpa only [smallB.smallAll, Bool.and_eq_true] using h
    simp only [PyData.leavesShortAll, Bool.and_eq_true]
    exact ⟨smallB_leaves h0 h8 x h'.1, smallB_leavesAll h0 h8 xs h'.2⟩
end
theorem fit_b {b : Nat} {d : PyData} (h8 : 8 ≤ b) (h1 : b ≤ 1900) (h : smallB b d = true) (hd : d.depth ≤ 40) (hb : (b + 3) * d.bulk + (b + 1) ≤ 16777216) : Fit d := by
  refine ⟨smallB_can (by omega) h1 d h, smallB_no d h, hd, ?_⟩
  have e := PyData.shown_le_bulk (b + 1) (by omega) d (smallB_leaves (by omega) h8 d h)
  rw [sizeLine_eq]
  have e2 : (b + 1 + 2) * d.bulk = (b + 3) * d.bulk := rfl
  omega
end Lx
namespace Lw
open PySem PySem.Spec L2 Lx
/-! ### a chain step by step -/
def stepsL (r : List (Int × Int) × Int) (cs : List Nat) : List (Int × Int) × Int := cs.foldl (fun y c => runAfter y (stepF c)) r
theorem stepsL_snoc (r : List (Int × Int) × Int) (cs : List Nat) (c : Nat) : stepsL r (cs ++ [c]) = runAfter (stepsL r cs) (stepF c) := by
  unfold stepsL
  rw [List.foldl_append]
  rfl
theorem stepsL_append (r : List (Int × Int) × Int) (a b : List Nat) : stepsL r (a ++ b) = stepsL (stepsL r a) b := by
  unfold stepsL
  rw [List.foldl_append]
theorem formL_snoc (cs : List Nat) (c : Nat) : formL (cs ++ [c]) = (formL cs).both (stepF c) := by
  unfold formL
  rw [List.foldl_append]
  rfl
theorem merged_ok {n : Nat} (k : Nat) : ∀ gs : List (Int × Int), gs.length = k → GsOk n gs → Lx.merged gs = gs := by
  induction k with
  | zero =>
    intro gs h _
    rw [List.eq_nil_of_length_eq_zero h]
    rfl
  | succ k ih =>
    intro gs h hg
    rcases snoc_or gs with rfl | ⟨a, y, rfl⟩
    · rfl
    · obtain ⟨h1, h2, _⟩ := gsok_front hg
      rw [merged_snoc, ih a (by simpa using h) h1]
      rcases snoc_or a with rfl | ⟨b, z, rfl⟩
      · rfl
      · rw [addTo_snoc, if_neg (h2 b z rfl)]
theorem after_nothing {j : Int} (h : 0 ≤ j) : nothing.after j = j := by
  show (if j - 0 > 0 then j - 0 else 0) + 0 = j
  have := pp (j - 0)
  omega
theorem moved_nothing {gs : List (Int × Int)} (h : ∀ x ∈ gs, 0 ≤ x.2) : moved nothing gs = gs := by
  unfold moved
  induction gs with
  | nil => rfl
  | cons g gs ih =>
    rw [List.map_cons, ih fun x hx => h x (List.mem_cons_of_mem _ hx), after_nothing (h g (List.mem_cons_self ..))]
theorem runAfter_nothing {n : Nat} {r : List (Int × Int) × Int} (h : RnOk n r) : runAfter r nothing = r := by
  show (Lx.merged (moved nothing r.1), r.2) = r
  rw [moved_nothing (fun x hx => ((RnOk.sm h).1 x hx).2.1), merged_ok _ r.1 rfl h.gs]
theorem conv_form {n : Nat} {r : List (Int × Int) × Int} (h : RnOk n r) (k : Nat) : ∀ cs : List Nat, cs.length = k → runAfter r (formL cs) = stepsL r cs := by
  induction k with
  | zero =>
    intro cs e
    rw [List.eq_nil_of_length_eq_zero e]
    exact runAfter_nothing h
  | succ k ih =>
    intro cs e
    rcases snoc_or cs with rfl | ⟨a, c, rfl⟩
    · exact runAfter_nothing h
    · rw [formL_snoc, ← runAfter_both, ih a (by simpa using e), stepsL_snoc]
theorem conv_of {n : Nat} {r : List (Int × Int) × Int} (h : RnOk n r) (x : Str) : runAfter r (formOf x) = stepsL r x.cps.toList := conv_form h _ _ rfl
/-! ### forms of short chains -/
def FLs (L : Nat) : Fm → Prop
  | .keep b a => 0 ≤ b ∧ b ≤ L ∧ 0 ≤ a ∧ a ≤ L
  | .lf b a k c => 0 ≤ b ∧ b ≤ L ∧ 0 ≤ a ∧ a ≤ L ∧ 0 < k ∧ Sm (6 * L + 1) k ∧ 0 ≤ c ∧ c ≤ L
  | .cr b a k => 0 ≤ b ∧ b ≤ L ∧ 0 ≤ a ∧ a ≤ L ∧ 0 < k ∧ Sm (6 * L + 1) k
theorem sms_le {L : Nat} {x : Int} (h0 : 0 ≤ x) (h : x ≤ L) : Sm (6 * L + 1) x := by
  have h1 : L < 2 ^ L := Nat.lt_two_pow_self
  have h2 : 2 ^ L ≤ 2 ^ (6 * L + 1) := Nat.pow_le_pow_right (by decide) (by omega)
  unfold Sm
  omega
theorem FLs.ok {L : Nat} : ∀ {f : Fm}, FLs L f → f.Ok (6 * L + 1)
  | .keep _ _, ⟨h1, h2, h3, h4⟩ => ⟨h1, h3, sms_le h1 h2, sms_le h3 h4⟩
  | .lf _ _ _ _, ⟨h1, h2, h3, h4, h5, h6, h7, h8⟩ => ⟨h1, h3, h5, h7, sms_le h1 h2, sms_le h3 h4, h6, sms_le h7 h8⟩
  | .cr _ _ _, ⟨h1, h2, h3, h4, h5, h6⟩ => ⟨h1, h3, h5, sms_le h1 h2, sms_le h3 h4, h6⟩
theorem sms_mul {L : Nat} {k x : Int} (hk : Sm (6 * L + 1) k) (h0 : 0 ≤ x) (h : x < 64) : Sm (6 * (L + 1) + 1) (k * x * 1) := by
  have e : Sm 6 x := by
    unfold Sm
    have : (2 : Nat) ^ 6 = 64 := by decide
    omega
  rw [Int.mul_one]
  exact (hk.mul e).mono (by omega)
theorem sms_up {L : Nat} {k : Int} (hk : Sm (6 * L + 1) k) : Sm (6 * (L + 1) + 1) k := hk.mono (by omega)
theorem FLs.step {L : Nat} (hL : L ≤ 60) {c : Nat} (hc : c ∈ steps.cps.toList) {f : Fm} (h : FLs L f) : FLs (L + 1) (f.both (stepF c)) := by
  cases f with
  | keep b a =>
    obtain ⟨h1, h2, h3, h4⟩ := h
    have p1 := pp (0 - a)
    have p2 := pp (a - 0)
    have p3 := pp (1 - a)
    have p4 := pp (a - 1)
    have one : Sm (6 * (L + 1) + 1) 1 := sms_le (L := L + 1) (by decide) (by omega)
    rcases step_cases hc with e | e | e | e <;> rw [e] <;> simp only [Fm.both, Fm.ahead, Fm.b, Fm.a, FLs]
    · exact ⟨by omega, by omega, by omega, by omega⟩
    · exact ⟨by omega, by omega, by omega, by omega⟩
    · exact ⟨by omega, by omega, by omega, by omega, by decide, one, by decide, by omega⟩
    · exact ⟨by omega, by omega, by omega, by omega, by decide, one⟩
  | lf b a k d =>
    obtain ⟨h1, h2, h3, h4, h5, h6, h7, h8⟩ := h
    have p1 := pp (d - 0)
    have p2 := pp (d - 1)
    rcases step_cases hc with e | e | e | e <;> rw [e] <;> simp only [Fm.both, Fm.after, Fm.b, Fm.a, FLs]
    · exact ⟨h1, by omega, h3, by omega, h5, sms_up h6, by omega, by omega⟩
    · exact ⟨h1, by omega, h3, by omega, h5, sms_up h6, by omega, by omega⟩
    · refine ⟨h1, by omega, h3, by omega, ?_, sms_mul h6 (by omega) (by omega), by decide, by omega⟩
      rw [Int.mul_one]
      exact Int.mul_pos h5 (by omega)
    · refine ⟨h1, by omega, h3, by omega, ?_, sms_mul h6 (by omega) (by omega)⟩
      rw [Int.mul_one]
      exact Int.mul_pos h5 (by omega)
  | cr b a k =>
    obtain ⟨h1, h2, h3, h4, h5, h6⟩ := h
    rcases step_cases hc with e | e | e | e <;> rw [e] <;> simp only [Fm.both, FLs, Int.mul_one]
    · exact ⟨h1, by omega, h3, by omega, h5, sms_up h6⟩
    · exact ⟨h1, by omega, h3, by omega, h5, sms_up h6⟩
    · exact ⟨h1, by omega, h3, by omega, h5, sms_up h6, by decide, by omega⟩
    · exact ⟨h1, by omega, h3, by omega, h5, sms_up h6⟩
theorem formL_fls (k : Nat) : ∀ cs : List Nat, cs.length = k → k ≤ 61 → (∀ c ∈ cs, c ∈ steps.cps.toList) → FLs k (formL cs) := by
  induction k with
  | zero =>
    intro cs h _ _
    rw [List.eq_nil_of_length_eq_zero h]
    exact ⟨by decide, by decide, by decide, by decide⟩
  | succ k ih =>
    intro cs h hk hc
    rcases snoc_or cs with rfl | ⟨a, c, rfl⟩
    · simp at h
    · rw [formL_snoc]
      exact (ih a (by simpa using h) (by omega) fun d hd => hc d (List.mem_append.mpr (.inl hd))).step (by omega) (hc c (by simp))
/-! ### lengths -/
theorem addTo_len (a : List (Int × Int)) (x : Int × Int) : (addTo a x).length ≤ a.length + 1 := by
  rcases snoc_or a with rfl | ⟨b, y, rfl⟩
  · exact Nat.le_refl _
  · rw [addTo_snoc]
    split <;> simp
theorem fold_len : ∀ (gs acc : List (Int × Int)), (gs.foldl addTo acc).length ≤ acc.length + gs.length
  | [], acc => Nat.le_refl _
  | g :: gs, acc => by
    have h1 := fold_len gs (addTo acc g)
    have h2 := addTo_len acc g
    rw [List.foldl_cons, List.length_cons]
    omega
theorem runAfter_len (r : List (Int × Int) × Int) (f : Fm) : (runAfter r f).1.length ≤ max r.1.length 1 := by
  cases f with
  | keep b a =>
    have := fold_len (moved (.keep b a) r.1) []
    have e : (moved (.keep b a) r.1).length = r.1.length := List.length_map ..
    show (Lx.merged (moved (.keep b a) r.1)).length ≤ _
    unfold Lx.merged
    rw [e] at this
    simp at this
    omega
  | lf b a k c =>
    show (if k * units r (.lf b a k c) = 0 then (([] : List (Int × Int)), (0 : Int)) else ([(k * units r (.lf b a k c), c)], 0)).1.length ≤ _
    split
    · exact Nat.zero_le _
    · exact Nat.le_max_right ..
  | cr b a k => exact Nat.zero_le _
theorem _root_.Lx.RnOk.mono {n m : Nat} {r : List (Int × Int) × Int} (h : RnOk n r) (k : n ≤ m) : RnOk m r :=
  ⟨fun i x hx => let ⟨h1, h2, h3, h4, h5⟩ := h.gs i x hx; ⟨h1, h2, h3.mono k, h4.mono k, h5⟩, ⟨h.rest.1, h.rest.2.mono k⟩, h.len⟩
/-- a chain of at most sixty steps from a run with numbers below 2 ^ 361 -/
theorem stepsL_ok {n : Nat} {r : List (Int × Int) × Int} (h : RnOk n r) (hn : n ≤ 361) {cs : List Nat} (hl : cs.length ≤ 60) (hc : ∀ c ∈ cs, c ∈ steps.cps.toList) : RnOk 1123 (stepsL r cs) ∧ (stepsL r cs).1.length ≤ max r.1.length 1 := by
  rw [← conv_form h _ cs rfl]
  have f := (formL_fls _ cs rfl (by omega) hc).ok
  exact ⟨runAfter_ok (h.mono hn) (f.mono (by omega)), runAfter_len r _⟩
/-! ### runs that repr can write -/
theorem pd_smallB {b : Nat} : ∀ (gs : List (Int × Int)), (∀ x ∈ gs, Sm b x.1 ∧ Sm b x.2) → smallB.smallAll b (pd gs) = true
  | [], _ => rfl
  | g :: gs, h => by
    have h1 := h g (List.mem_cons_self ..)
    have ih := pd_smallB gs fun x hx => h x (List.mem_cons_of_mem _ hx)
    unfold pd at ih ⊢
    simp only [List.map_cons, smallB.smallAll, smallB, ih, Bool.and_true]
    rw [decide_eq_true (show g.1.natAbs < 2 ^ b from h1.1), decide_eq_true (show g.2.natAbs < 2 ^ b from h1.2)]
    rfl
theorem rd_smallB {b : Nat} {g : List (Int × Int) × Int} (h : RnOk b g) : smallB b (rd g) = true := by
  have e1 := pd_smallB (b := b) g.1 fun x hx => by
    obtain ⟨i, hi⟩ := List.mem_iff_getElem?.mp hx
    exact ⟨(h.gs i x hi).2.2.1, (h.gs i x hi).2.2.2.1⟩
  unfold rd
  simp only [smallB, smallB.smallAll, e1, Bool.and_true, Bool.true_and]
  exact decide_eq_true h.rest.2
theorem pd_bulk3 (gs : List (Int × Int)) : PyData.bulkAll (pd gs) = 3 * gs.length := by
  unfold pd
  induction gs with
  | nil => rfl
  | cons g gs ih =>
    simp only [List.map_cons, PyData.bulkAll, PyData.bulk, List.length_cons]
    omega
theorem rd_bulk (g : List (Int × Int) × Int) : (rd g).bulk = 3 * g.1.length + 2 := by
  have e := pd_bulk3 g.1
  unfold rd
  simp only [PyData.bulk, PyData.bulkAll]
  omega
theorem rd_fit {g : List (Int × Int) × Int} (h : RnOk 1123 g) (hl : g.1.length ≤ 1000) : Fit (rd g) := by
  have e := rd_bulk g
  have e2 := rd_depth g
  exact fit_b (b := 1123) (by decide) (by decide) (rd_smallB h) (by omega) (by omega)
theorem rd2_fit {g h : List (Int × Int) × Int} (h1 : RnOk 1123 g) (h2 : RnOk 1123 h) (hl : g.1.length ≤ 1000) (hl2 : h.1.length ≤ 1000) : Fit (.list [rd g, rd h]) := by
  have e := rd_bulk g
  have e' := rd_bulk h
  have e2 := rd_depth g
  have e2' := rd_depth h
  refine fit_b (b := 1123) (by decide) (by decide) ?_ ?_ ?_
  · simp only [smallB, smallB.smallAll, rd_smallB h1, rd_smallB h2, Bool.and_true]
  · simp only [PyData.depth, PyData.depthAll]
    omega
  · simp only [PyData.bulk, PyData.bulkAll]
    omega
theorem int_fit {x : Int} (h : Sm 1900 x) : Fit (.int x) := by
  refine fit_b (b := 1900) (by decide) (by decide) ?_ (by simp [PyData.depth]) (by simp [PyData.bulk])
  simp only [smallB]
  exact decide_eq_true h
end Lw
namespace Lw
open PySem PySem.Spec L2 Lx
theorem cutS_head (z : Str) (k : Nat) (h : k ≤ z.cps.size) : (cutS z none (some (k : Int))).cps.toList = z.cps.toList.take k := by
  unfold cutS
  have e : z.length = z.cps.size := rfl
  rw [e, HT.sIx_none, HT.sIx_nat, Nat.min_eq_left h]
  simp
theorem cutS_tail (z : Str) (k : Nat) (h : k ≤ z.cps.size) : (cutS z (some (k : Int)) none).cps.toList = z.cps.toList.drop k := by
  unfold cutS
  have e : z.length = z.cps.size := rfl
  rw [e, HT.sIx_none, HT.sIx_nat, Nat.min_eq_left h]
  simp
  exact List.take_of_length_le (by simp)
end Lw
namespace Lw
open PySem PySem.Spec L2 Lx
theorem units_size {g : List (Int × Int) × Int} {f : Fm} (h : RnOk 361 g) (hf : f.Ok 361) : Sm 1600 (units (runAfter g f) nothing) := by
  have hu := units_ok (RnOk.sm h) hf
  cases f with
  | keep b a =>
    rw [units_both]
    have e : (Fm.keep b a).both nothing = .keep b a := by
      have p1 := pp (0 - a)
      have p2 := pp (a - 0)
      have ha := hf.2.1
      show Fm.keep (b + (if 0 - a > 0 then 0 - a else 0)) ((if a - 0 > 0 then a - 0 else 0) + 0) = _
      congr 1 <;> omega
    rw [e]
    exact hu.2.mono (by decide)
  | lf b a k c =>
    by_cases z : k * units g (.lf b a k c) = 0
    · rw [show runAfter g (.lf b a k c) = ([], 0) from if_pos z]
      exact Nat.two_pow_pos _
    · rw [show runAfter g (.lf b a k c) = ([(k * units g (.lf b a k c), c)], 0) from if_neg z, units_one, after_nothing hf.2.2.2.1]
      have h1 := hf.2.2.2.2.2.2.1.mul hu.2
      have h2 : Sm 362 (c + 1) := hf.2.2.2.2.2.2.2.add (Nat.lt_of_lt_of_le (by decide : (1 : Int).natAbs < 2 ^ 1) (Nat.pow_le_pow_right (by decide) (by decide)))
      exact (h1.mul h2).mono (by decide)
  | cr b a k =>
    show Sm 1600 (units ([], k * units g (.cr b a k)) nothing)
    rw [units_none]
    exact (hf.2.2.2.2.2.mul hu.2).mono (by decide)
theorem stepsL_units {n : Nat} {r : List (Int × Int) × Int} (h : RnOk n r) (hn : n ≤ 361) {cs : List Nat} (hl : cs.length ≤ 60) (hc : ∀ c ∈ cs, c ∈ steps.cps.toList) : Sm 1900 (units (stepsL r cs) nothing) := by
  rw [← conv_form h _ cs rfl]
  have f := (formL_fls _ cs rfl (by omega) hc).ok
  exact (units_size (h.mono hn) (f.mono (by omega))).mono (by decide)
end Lw
namespace Lw
open PySem PySem.Spec L2 Lx
/-! ### a dict of draws -/
abbrev bagK (g : Addr) (l t b : Int) : List (Key × V) := [(.inr "great", .ref g), (.inr "left", .int l), (.inr "turn", .int t), (.inr "blend", .int b)]
theorem bag_put_left {g : Addr} {l t b x : Int} : putK (bagK g l t b) (.inr "left") (.int x) = bagK g x t b := by rfl
theorem bag_put_turn {g : Addr} {l t b x : Int} : putK (bagK g l t b) (.inr "turn") (.int x) = bagK g l x b := by rfl
theorem bag_great {g : Addr} {l t b : Int} : valV (bagK g l t b) (.inr "great") = some (.ref g) := by rfl
theorem bag_left {g : Addr} {l t b : Int} : valV (bagK g l t b) (.inr "left") = some (.int l) := by rfl
theorem bag_turn {g : Addr} {l t b : Int} : valV (bagK g l t b) (.inr "turn") = some (.int t) := by rfl
theorem bag_blend {g : Addr} {l t b : Int} : valV (bagK g l t b) (.inr "blend") = some (.int b) := by rfl
def BagAt (H : Hp) (r gl : Addr) (n : Nat) : Prop := ∃ (ds : List Int) (l t b : Int), H r = some (.dK (bagK gl l t b)) ∧ H gl = some (.lst (ds.map V.int)) ∧ (∀ d ∈ ds, 0 ≤ d) ∧ 0 ≤ l ∧ 0 ≤ t ∧ t ≤ n ∧ 0 ≤ b ∧ b < 2305843009213693952 ∧ r ≠ gl
theorem bag_get {H : Hp} {r gl : Addr} {l t b : Int} {k : Str} {v : V} (h : H r = some (.dK (bagK gl l t b))) (e : valV (bagK gl l t b) (.inr k) = some v) : DGet H r (.str k) (some v) := .inl ⟨_, .inr k, .inl h, rfl, e.symm⟩
/-- all but two addresses is as it was -/
def Kb (r gl : Addr) (H H' : Hp) : Prop := ∀ b o, b ≠ r → b ≠ gl → H b = some o → H' b = some o
theorem Kb.refl (r gl : Addr) (H : Hp) : Kb r gl H H := fun _ _ _ _ h => h
theorem Kb.trans {r gl : Addr} {H H1 H2 : Hp} (a : Kb r gl H H1) (b : Kb r gl H1 H2) : Kb r gl H H2 := fun c o h1 h2 h => b c o h1 h2 (a c o h1 h2 h)
theorem Kb.of {r gl : Addr} {H H' : Hp} (s : Same H H') : Kb r gl H H' := fun b o _ _ h => s b o h
theorem Kb.upd_r {r gl : Addr} {H : Hp} {o : HO} : Kb r gl H (upd H r o) := fun b u h1 h2 h => by rw [upd_ne h1]; exact h
theorem Kb.upd_g {r gl : Addr} {H : Hp} {o : HO} : Kb r gl H (upd H gl o) := fun b u h1 h2 h => by rw [upd_ne h2]; exact h
theorem Kb.own {r gl p : Addr} {H H' : Hp} {o : HO} (k : Kb r gl H H') (h : H p = none) : Kb r gl H (upd H' p o) := fun b u h1 h2 e => by
  rw [upd_ne (ne_of_none e h)]
  exact k b u h1 h2 e
theorem BagAt.same {H H' : Hp} {r gl : Addr} {n : Nat} (s : Same H H') : BagAt H r gl n → BagAt H' r gl n := fun ⟨ds, l, t, b, h1, h2, h3⟩ => ⟨ds, l, t, b, s _ _ h1, s _ _ h2, h3⟩
theorem BagAt.mono {H : Hp} {r gl : Addr} {n m : Nat} (k : n ≤ m) : BagAt H r gl n → BagAt H r gl m := fun ⟨ds, l, t, b, h1, h2, h3, h4, h5, h6, h7⟩ => ⟨ds, l, t, b, h1, h2, h3, h4, h5, by omega, h7⟩
theorem BagAt.ne {H : Hp} {r gl p : Addr} {n : Nat} (s : BagAt H r gl n) (h : H p = none) : p ≠ r ∧ p ≠ gl := by
  obtain ⟨_, _, _, _, q1, q2, _⟩ := s
  exact ⟨Ne.symm (ne_of_none q1 h), Ne.symm (ne_of_none q2 h)⟩
theorem BagAt.neT {H : Hp} {r gl p : Addr} {n : Nat} {xs : List V} (s : BagAt H r gl n) (h : H p = some (.tup xs)) : p ≠ r ∧ p ≠ gl := by
  obtain ⟨_, _, _, _, q1, q2, _⟩ := s
  exact ⟨ne_of h q1 (by intro z; cases z), ne_of h q2 (by intro z; cases z)⟩
theorem BagAt.own {H : Hp} {r gl p : Addr} {n : Nat} {o : HO} (s : BagAt H r gl n) (ne : p ≠ r ∧ p ≠ gl) : BagAt (upd H p o) r gl n := by
  obtain ⟨ds, l, t, b, h1, h2, h3⟩ := s
  exact ⟨ds, l, t, b, by rw [upd_ne (Ne.symm ne.1)]; exact h1, by rw [upd_ne (Ne.symm ne.2)]; exact h2, h3⟩
theorem Kb.free {r gl : Addr} {H H' : Hp} {n : Nat} (k : Kb r gl H H') (s : BagAt H' r gl n) {p : Addr} (h : H' p = none) : H p = none := by
  cases e : H p with
  | none => rfl
  | some o =>
    have := k p o (s.ne h).1 (s.ne h).2 e
    rw [h] at this
    cases this
theorem Prs.kb {K : PySem.W.Frag} {H H' : Hp} {r gl : Addr} {n : Nat} (s : BagAt H r gl n) (k : Kb r gl H H') : ∀ {vs : List V} {gs : List (Int × Int)}, Prs K H vs gs → Prs K H' vs gs
  | _, _, .nil => .nil
  | _, _, .cons ⟨p, e, h⟩ t => .cons ⟨p, e, k _ _ (s.neT h).1 (s.neT h).2 h⟩ (Prs.kb s k t)
theorem RnS.kb {K : PySem.W.Frag} {H H' : Hp} {v : V} {l r gl : Addr} {n : Nat} {g : List (Int × Int) × Int} (s : BagAt H r gl n) (k : Kb r gl H H') (ne : l ≠ r ∧ l ≠ gl) : RnS K H v l g → RnS K H' v l g :=
  fun ⟨p, xs, h1, h2, h3, h4⟩ => ⟨p, xs, h1, k _ _ (s.neT h2).1 (s.neT h2).2 h2, k _ _ ne.1 ne.2 h3, Prs.kb s k h4⟩
theorem if_fin {c : L2.TT} {A B : TS} {D : Ends} {σ : St} {H : Hp} (Fin : St → Hp → Prop) (h : ∀ R : St → Hp → Prop, (∀ σ H, Fin σ H → R σ H) → tIfS c A B { D with nx := R } σ H) (hf : ∀ σ H, Fin σ H → D.nx σ H) : tIfS c A B D σ H := h D.nx hf
/-! ### groups of which some may be empty, put together -/
/-- numbers that can be reckoned with -/
def GsSm (n : Nat) (gs : List (Int × Int)) : Prop := ∀ x ∈ gs, 0 ≤ x.1 ∧ 0 ≤ x.2 ∧ Sm n x.1 ∧ Sm n x.2
def reduced (gs : List (Int × Int)) : List (Int × Int) := Lx.merged (gs.filter fun x => decide (x.1 > 0))
theorem reduced_take {gs : List (Int × Int)} {i : Nat} {x : Int × Int} (h : gs[i]? = some x) : reduced (gs.take (i + 1)) = if x.1 > 0 then addTo (reduced (gs.take i)) x else reduced (gs.take i) := by
  unfold reduced
  rw [List.take_succ, h, List.filter_append]
  by_cases hx : x.1 > 0
  · have e : List.filter (fun x : Int × Int => decide (x.1 > 0)) (some x).toList = [x] := by simp [hx]
    rw [if_pos hx, e]
    unfold Lx.merged
    rw [List.foldl_append]
    rfl
  · have e : List.filter (fun x : Int × Int => decide (x.1 > 0)) (some x).toList = [] := by simp [hx]
    rw [if_neg hx, e, List.append_nil]
theorem reduced_all {gs : List (Int × Int)} (h : ∀ x ∈ gs, x.1 > 0) : reduced gs = Lx.merged gs := by
  unfold reduced
  rw [List.filter_eq_self.mpr fun x hx => decide_eq_true (h x hx)]
theorem reduced_ok {n : Nat} {gs : List (Int × Int)} (h : GsSm n gs) (hl : gs.length ≤ 1000) : GsOk (n + 11) (reduced gs) ∧ (reduced gs).length ≤ gs.length := by
  have hf : (gs.filter fun x => decide (x.1 > 0)).length ≤ gs.length := List.length_filter_le ..
  have m := mi_fold (n := n) (gs.filter fun x => decide (x.1 > 0)) [] 0 (by omega) (fun x hx => by
    obtain ⟨h1, h2⟩ := List.mem_filter.mp hx
    have h2 := of_decide_eq_true h2
    obtain ⟨q1, q2, q3, q4⟩ := h x h1
    exact ⟨by omega, q3, q2, q4.mono (by omega)⟩) ⟨(fun i x hx => by simp at hx), (fun x hx => by cases hx), Nat.le_refl _⟩
  obtain ⟨m1, m2, m3⟩ := m
  refine ⟨m1, ?_⟩
  have : (reduced gs).length ≤ 0 + (gs.filter fun x => decide (x.1 > 0)).length := m3
  omega
end Lw
namespace Lw
open PySem PySem.Spec L2 Lx
theorem wh3 : ∀ f : Fm, ¬ (HT.sIx f.vs.length 0 (some 3) = 0 ∧ HT.sIx f.vs.length f.vs.length none = f.vs.length)
  | .keep _ _ => show ¬ (HT.sIx 3 0 (some 3) = 0 ∧ HT.sIx 3 3 none = 3) by decide
  | .lf _ _ _ _ => show ¬ (HT.sIx 5 0 (some 3) = 0 ∧ HT.sIx 5 5 none = 5) by decide
  | .cr _ _ _ => show ¬ (HT.sIx 4 0 (some 3) = 0 ∧ HT.sIx 4 4 none = 4) by decide
theorem vs_len : ∀ f : Fm, f.vs.length ≤ 5
  | .keep _ _ => by show 3 ≤ 5; decide
  | .lf _ _ _ _ => Nat.le_refl 5
  | .cr _ _ _ => by show 4 ≤ 5; decide
def Fm.isKeep : Fm → Bool
  | .keep _ _ => true
  | _ => false
/-- units of one unit -/
def Fm.one : Fm → Fm → Int
  | .lf _ _ _ c, g => g.after c + 1
  | _, _ => 1
theorem nk_k {f : Fm} (h : Fm.isKeep f = false) : ∃ k, f.vs[3]? = some (.int k) := by
  cases f with
  | keep _ _ => cases h
  | lf _ _ k _ => exact ⟨k, rfl⟩
  | cr _ _ k => exact ⟨k, rfl⟩
theorem nk_ok {f : Fm} {n : Nat} {k : Int} (h : Fm.isKeep f = false) (o : f.Ok n) (e : f.vs[3]? = some (.int k)) : 0 < k ∧ Sm n k := by
  cases f with
  | keep _ _ => cases h
  | lf _ _ _ _ => cases e; exact ⟨o.2.2.1, o.2.2.2.2.2.2.1⟩
  | cr _ _ _ => cases e; exact ⟨o.2.2.1, o.2.2.2.2.2⟩
theorem nk_pos {f : Fm} {n : Nat} (h : Fm.isKeep f = false) (o : f.Ok n) : 0 < n := by
  obtain ⟨k, e⟩ := nk_k h
  have h1 := nk_ok h o e
  have h2 : k.natAbs < 2 ^ n := h1.2
  have h3 := h1.1
  rcases Nat.eq_zero_or_pos n with z | z
  · subst z
    omega
  · exact z
theorem one_ok {f g : Fm} {n : Nat} (h : Fm.isKeep f = false) (o : f.Ok n) (og : g.Ok n) : 0 < Fm.one f g ∧ Sm (n + 2) (Fm.one f g) := by
  have h4 : 2 ^ 2 ≤ 2 ^ (n + 2) := Nat.pow_le_pow_right (by decide) (by omega)
  cases f with
  | keep _ _ => cases h
  | lf b a k c =>
    have e := Fm.after_ok og o.2.2.2.1 o.2.2.2.2.2.2.2
    have e2 : 2 ^ (n + 2) = 2 ^ (n + 1) * 2 := Nat.pow_succ 2 (n + 1)
    have e3 : (g.after c).natAbs < 2 ^ (n + 1) := e.2
    have e4 := e.1
    have e5 : 1 ≤ 2 ^ (n + 1) := Nat.one_le_two_pow
    refine ⟨by show 0 < g.after c + 1; omega, ?_⟩
    show (g.after c + 1).natAbs < 2 ^ (n + 2)
    rw [e2]
    generalize 2 ^ (n + 1) = M at *
    omega
  | cr _ _ _ => exact ⟨(by decide : (0 : Int) < 1), Nat.lt_of_lt_of_le (by decide : (1 : Int).natAbs < 2 ^ 2) h4⟩
theorem wh4 : ∀ f : Fm, ¬ (HT.sIx f.vs.length 0 (some 4) = 0 ∧ HT.sIx f.vs.length f.vs.length none = f.vs.length)
  | .keep _ _ => show ¬ (HT.sIx 3 0 (some 4) = 0 ∧ HT.sIx 3 3 none = 3) by decide
  | .lf _ _ _ _ => show ¬ (HT.sIx 5 0 (some 4) = 0 ∧ HT.sIx 5 5 none = 5) by decide
  | .cr _ _ _ => show ¬ (HT.sIx 4 0 (some 4) = 0 ∧ HT.sIx 4 4 none = 4) by decide
/-- the run that a form which keeps no groups makes of so many units -/
def ofUnits (t : Int) : Fm → List (Int × Int) × Int
  | .keep _ _ => ([], 0)
  | .lf _ _ k c => if k * t = 0 then ([], 0) else ([(k * t, c)], 0)
  | .cr _ _ k => ([], k * t)
theorem runAfter_units {r : List (Int × Int) × Int} {f : Fm} (h : Fm.isKeep f = false) : runAfter r f = ofUnits (units r f) f := by
  cases f with
  | keep _ _ => cases h
  | lf _ _ _ _ => rfl
  | cr _ _ _ => rfl
/-- the lengths of forms by their words -/
structure LenT (K : PySem.W.Frag) (w : World) (mg : Str → Option Value) (aL : Addr) : Prop where
  g : mg "FORM_LENGTHS" = some (.ref aL)
  d : ∃ es n, KDict K w aL es n
  keep : ∃ t, PySem.W.nsIn K aL "keep" = some (some (.int 3 t))
  lf : ∃ t, PySem.W.nsIn K aL "lf" = some (some (.int 5 t))
  cr : ∃ t, PySem.W.nsIn K aL "cr" = some (some (.int 4 t))
theorem LenT.at {K : PySem.W.Frag} {w : World} {mg : Str → Option Value} {aL : Addr} (T : LenT K w mg aL) : ∀ f : Fm, ∃ t, PySem.W.nsIn K aL f.nm = some (some (.int f.vs.length t))
  | .keep _ _ => T.keep
  | .lf _ _ _ _ => T.lf
  | .cr _ _ _ => T.cr
theorem cut1 (f : Fm) : cutV f.vs (some 1) none = f.nums.map V.int := by cases f <;> rfl
theorem wh : ∀ f : Fm, ¬ (HT.sIx f.vs.length 0 (some 1) = 0 ∧ HT.sIx f.vs.length f.vs.length none = f.vs.length)
  | .keep _ _ => show ¬ (HT.sIx 3 0 (some 1) = 0 ∧ HT.sIx 3 3 none = 3) by decide
  | .lf _ _ _ _ => show ¬ (HT.sIx 5 0 (some 1) = 0 ∧ HT.sIx 5 5 none = 5) by decide
  | .cr _ _ _ => show ¬ (HT.sIx 4 0 (some 1) = 0 ∧ HT.sIx 4 4 none = 4) by decide
theorem np : ∀ f : Fm, 0 < f.nums.length
  | .keep _ _ => Nat.succ_pos _
  | .lf _ _ _ _ => Nat.succ_pos _
  | .cr _ _ _ => Nat.succ_pos _
theorem nums0 {f : Fm} {n : Nat} (h : f.Ok n) : ∀ x ∈ f.nums, 0 ≤ x := by
  intro x hx
  cases f with
  | keep b a =>
    obtain ⟨h1, h2, _⟩ := h
    simp only [Fm.nums, List.mem_cons, List.not_mem_nil, or_false] at hx
    rcases hx with rfl | rfl <;> assumption
  | lf b a k c =>
    obtain ⟨h1, h2, h3, h4, _⟩ := h
    simp only [Fm.nums, List.mem_cons, List.not_mem_nil, or_false] at hx
    rcases hx with rfl | rfl | rfl | rfl
    · exact h1
    · exact h2
    · omega
    · exact h4
  | cr b a k =>
    obtain ⟨h1, h2, h3, _⟩ := h
    simp only [Fm.nums, List.mem_cons, List.not_mem_nil, or_false] at hx
    rcases hx with rfl | rfl | rfl
    · exact h1
    · exact h2
    · omega
end Lw
namespace Lw
open PySem PySem.Spec L2 Lx
/-! ### equal data -/
theorem pd_eqv : ∀ (a b : List (Int × Int)), PyData.eqvAll (pd a) (pd b) = decide (a = b)
  | [], [] => rfl
  | [], _ :: _ => rfl
  | _ :: _, [] => rfl
  | x :: xs, y :: ys => by
    have ih := pd_eqv xs ys
    unfold pd at ih ⊢
    simp only [List.map_cons, PyData.eqvAll, PyData.eqv, Bool.and_true, ih]
    obtain ⟨x1, x2⟩ := x
    obtain ⟨y1, y2⟩ := y
    by_cases h1 : x1 = y1 <;> by_cases h2 : x2 = y2 <;> by_cases h3 : xs = ys <;> simp [h1, h2, h3]
theorem rd_eqv (a b : List (Int × Int) × Int) : PyData.eqv (rd a) (rd b) = decide (a = b) := by
  have h := pd_eqv a.1 b.1
  unfold rd
  simp only [PyData.eqv, PyData.eqvAll, h, Bool.and_true]
  obtain ⟨a1, a2⟩ := a
  obtain ⟨b1, b2⟩ := b
  by_cases h1 : a1 = b1 <;> by_cases h2 : a2 = b2 <;> simp [h1, h2]
theorem fm_dp {K : PySem.W.Frag} {H : Hp} {x : V} {f : Fm} : FmAt K H x f → Dp K H x (fdt f) := fun ⟨p, e, h⟩ => by
  subst e
  cases f with
  | keep b a => exact .tup h (.cons (.str _) (.cons (.int _) (.cons (.int _) .nil)))
  | lf b a k c => exact .tup h (.cons (.str _) (.cons (.int _) (.cons (.int _) (.cons (.int _) (.cons (.int _) .nil)))))
  | cr b a k => exact .tup h (.cons (.str _) (.cons (.int _) (.cons (.int _) (.cons (.int _) .nil))))
theorem fdt_shaped (f : Fm) : SeqAt.shaped (fdt f) = true := by
  cases f <;> (unfold SeqAt.shaped fdt; simp [PyData.canLay0, PyData.canLayAll0, PyData.depth, PyData.depthAll]; decide +kernel)
theorem fdt_eqv (f g : Fm) : PyData.eqv (fdt f) (fdt g) = true ↔ f = g := by
  cases f <;> cases g <;> simp [fdt, PyData.eqv, PyData.eqvAll] <;> decide
/-! ### runs in a list -/
inductive Rns (K : PySem.W.Frag) (H : Hp) : List V → List (List (Int × Int) × Int) → Prop
  | nil : Rns K H [] []
  | cons {v : V} {vs : List V} {r : List (Int × Int) × Int} {rs : List (List (Int × Int) × Int)} : (∃ l, RnS K H v l r) → Rns K H vs rs → Rns K H (v :: vs) (r :: rs)
theorem Rns.same {K : PySem.W.Frag} {H H' : Hp} (s : Same H H') : ∀ {vs rs}, Rns K H vs rs → Rns K H' vs rs
  | _, _, .nil => .nil
  | _, _, .cons ⟨l, h⟩ t => .cons ⟨l, h.same s⟩ (t.same s)
theorem Rns.len {K : PySem.W.Frag} {H : Hp} : ∀ {vs rs}, Rns K H vs rs → vs.length = rs.length
  | _, _, .nil => rfl
  | _, _, .cons _ t => by rw [List.length_cons, List.length_cons, t.len]
theorem Rns.get {K : PySem.W.Frag} {H : Hp} : ∀ {vs rs}, Rns K H vs rs → ∀ {i : Nat} {v : V}, vs[i]? = some v → ∃ r l, rs[i]? = some r ∧ RnS K H v l r
  | _, _, .nil, i, v, h => by simp at h
  | _, _, .cons ⟨l, h1⟩ t, 0, v, h => by
    have e := Option.some.inj h
    subst e
    exact ⟨_, l, rfl, h1⟩
  | _, _, .cons h1 t, i + 1, v, h => t.get (i := i) h
theorem Rns.append {K : PySem.W.Frag} {H : Hp} : ∀ {vs ws rs qs}, Rns K H vs rs → Rns K H ws qs → Rns K H (vs ++ ws) (rs ++ qs)
  | _, _, _, _, .nil, h => h
  | _, _, _, _, .cons a t, h => .cons a (t.append h)
/-! ### forms that do the same twice -/
def sizesOf (f : Fm) : List Int := [0, 1, f.b, f.a, f.b + f.a, 2 * f.nums.sum + 5]
def tests (f : Fm) : List (List (Int × Int) × Int) := [([], 1), ([], 3)] ++ (sizesOf f).map fun j => ([(1, j)], 0)
theorem tests_ok {n : Nat} {f : Fm} (h : f.Ok n) : ∀ r ∈ tests f, RnOk (n + 10) r := by
  have hb := h.b0
  have ha := h.a0
  have one : ∀ z : Int, 0 ≤ z → z ≤ 5 → Sm (n + 10) z := fun z h0 h1 => Nat.lt_of_lt_of_le (show z.natAbs < 2 ^ 10 by
    have : (2 : Nat) ^ 10 = 1024 := by decide
    omega) (Nat.pow_le_pow_right (by decide) (by omega))
  have hs : 0 ≤ f.nums.sum ∧ Sm (n + 3) f.nums.sum := by
    have pw : 2 ^ (n + 3) = 2 ^ n * 8 := Nat.pow_add 2 n 3
    cases f with
    | keep b a =>
      obtain ⟨h1, h2, h3, h4⟩ := h
      unfold Sm at *
      simp only [Fm.nums, List.sum_cons, List.sum_nil]
      rw [pw]
      generalize 2 ^ n = M at *
      omega
    | lf b a k c =>
      obtain ⟨h1, h2, h3, h4, h5, h6, h7, h8⟩ := h
      unfold Sm at *
      simp only [Fm.nums, List.sum_cons, List.sum_nil]
      rw [pw]
      generalize 2 ^ n = M at *
      omega
    | cr b a k =>
      obtain ⟨h1, h2, h3, h4, h5, h6⟩ := h
      unfold Sm at *
      simp only [Fm.nums, List.sum_cons, List.sum_nil]
      rw [pw]
      generalize 2 ^ n = M at *
      omega
  have r0 : ∀ e : Int, 0 ≤ e → e ≤ 5 → RnOk (n + 10) ([], e) := fun e e0 e1 => ⟨fun i x hx => by simp at hx, ⟨e0, one e e0 e1⟩, Nat.zero_le _⟩
  have r1 : ∀ j : Int, 0 ≤ j → Sm (n + 10) j → RnOk (n + 10) ([(1, j)], 0) := fun j j0 j1 => ⟨gsok_snoc (gs := []) (fun i x hx => by simp at hx) (fun a y e => by simp at e) ⟨by show (1 : Int) ≤ 1; decide, j0, one 1 (by decide) (by decide), j1⟩, ⟨(by decide : (0 : Int) ≤ 0), one 0 (by decide) (by decide)⟩, by show 1 ≤ 1000; decide⟩
  have m : ∀ {z : Int} {k : Nat}, k ≤ n + 10 → Sm k z → Sm (n + 10) z := fun h1 h2 => h2.mono h1
  have pw4 : Sm (n + 10) (2 * f.nums.sum + 5) := by
    have e : 2 ^ (n + 10) = 2 ^ (n + 3) * 128 := by rw [show n + 10 = (n + 3) + 7 from rfl, Nat.pow_add]
    have e1 : 1 ≤ 2 ^ (n + 3) := Nat.one_le_two_pow
    have h1 := hs.2
    unfold Sm at *
    rw [e]
    generalize 2 ^ (n + 3) = M at *
    omega
  intro r hr
  have hr' : r ∈ [([], 1), ([], 3), ([(1, 0)], 0), ([(1, 1)], 0), ([(1, f.b)], 0), ([(1, f.a)], 0), ([(1, f.b + f.a)], 0), ([(1, 2 * f.nums.sum + 5)], (0 : Int))] := hr
  simp only [List.mem_cons, List.not_mem_nil, or_false] at hr'
  rcases hr' with rfl | rfl | rfl | rfl | rfl | rfl | rfl | rfl
  · exact r0 1 (by decide) (by decide)
  · exact r0 3 (by decide) (by decide)
  · exact r1 0 (by decide) (one 0 (by decide) (by decide))
  · exact r1 1 (by decide) (one 1 (by decide) (by decide))
  · exact r1 _ hb.1 (m (by omega) hb.2)
  · exact r1 _ ha.1 (m (by omega) ha.2)
  · exact r1 _ (by omega) (m (by omega) (hb.2.add ha.2))
  · exact r1 _ (by have := hs.1; omega) pw4
theorem sum_ge {n : Nat} {f : Fm} (h : f.Ok n) : f.b ≤ f.nums.sum := by
  cases f with
  | keep b a =>
    obtain ⟨h1, h2, _⟩ := h
    simp only [Fm.nums, List.sum_cons, List.sum_nil, Fm.b]
    omega
  | lf b a k c =>
    obtain ⟨h1, h2, h3, h4, _⟩ := h
    simp only [Fm.nums, List.sum_cons, List.sum_nil, Fm.b]
    omega
  | cr b a k =>
    obtain ⟨h1, h2, h3, _⟩ := h
    simp only [Fm.nums, List.sum_cons, List.sum_nil, Fm.b]
    omega
theorem run1 (b a j : Int) : runAfter ([(1, j)], 0) (.keep b a) = ([(1, (Fm.keep b a).after j)], 0) := rfl
theorem twice {n : Nat} {f : Fm} (h : f.Ok n) : f.both f = f ↔ ∀ r ∈ tests f, runAfter (runAfter r f) f = runAfter r f := by
  constructor
  · intro e r _
    rw [runAfter_both, e]
  · intro ht
    have t1 := ht ([], 1) (by unfold tests; simp)
    rw [runAfter_both] at t1
    cases f with
    | keep b a =>
      have one : ∀ j : Int, (([(1, j)], 0) : List (Int × Int) × Int) ∈ tests (.keep b a) → ((Fm.keep b a).both (.keep b a)).after j = (Fm.keep b a).after j := fun j hj => by
        have e := ht _ hj
        rw [runAfter_both] at e
        have eb : (Fm.keep b a).both (.keep b a) = .keep (b + if b - a > 0 then b - a else 0) ((if a - b > 0 then a - b else 0) + a) := rfl
        rw [eb] at e ⊢
        rw [run1, run1] at e
        injection e with e1 e2
        injection e1 with e3 e4
        injection e3
      have s1 := one 0 (by unfold tests sizesOf; simp)
      have s2 := one (2 * (Fm.keep b a).nums.sum + 5) (by unfold tests sizesOf; simp)
      have hs := sum_ge h
      obtain ⟨b0, a0, _, _⟩ := h
      have p1 := pp (b - a)
      have p2 := pp (a - b)
      simp only [Fm.both, Fm.ahead, Fm.after, Fm.b, Fm.a, Fm.nums, List.sum_cons, List.sum_nil] at s1 s2 hs ⊢
      generalize (if b - a > 0 then b - a else 0) = A at *
      generalize (if a - b > 0 then a - b else 0) = B at *
      have p3 := pp (0 - (b + A))
      have p4 := pp (0 - b)
      have p5 := pp (2 * (b + (a + 0)) + 5 - (b + A))
      have p6 := pp (2 * (b + (a + 0)) + 5 - b)
      congr 1 <;> omega
    | lf b a k c =>
      obtain ⟨b0, a0, k0, c0, _⟩ := h
      have u0 : 0 ≤ (Fm.lf b a k c).after c := by
        have := pp (c - b)
        show 0 ≤ (if c - b > 0 then c - b else 0) + a
        omega
      have kk : 0 < k * ((Fm.lf b a k c).after c + 1) * k := Int.mul_pos (Int.mul_pos k0 (by omega)) k0
      have un : ∀ g : Fm, units ([], 1) g = 1 := fun g => units_none 1 g
      have e1 : runAfter ([], 1) (.lf b a k c) = ([(k, c)], 0) := by
        show (if k * units ([], 1) (.lf b a k c) = 0 then (([] : List (Int × Int)), (0 : Int)) else ([(k * units ([], 1) (.lf b a k c), c)], 0)) = _
        rw [un, Int.mul_one, if_neg (by omega)]
      have e2 : runAfter ([], 1) ((Fm.lf b a k c).both (.lf b a k c)) = ([(k * ((Fm.lf b a k c).after c + 1) * k, c)], 0) := by
        show (if (k * ((Fm.lf b a k c).after c + 1) * k) * units ([], 1) (.lf b a (k * ((Fm.lf b a k c).after c + 1) * k) c) = 0 then (([] : List (Int × Int)), (0 : Int)) else ([((k * ((Fm.lf b a k c).after c + 1) * k) * units ([], 1) (.lf b a (k * ((Fm.lf b a k c).after c + 1) * k) c), c)], 0)) = _
        rw [un, Int.mul_one, if_neg (by omega)]
      rw [e1, e2] at t1
      injection t1 with t2 t3
      injection t2 with t4 t5
      injection t4 with t6 t7
      show Fm.lf b a (k * ((Fm.lf b a k c).after c + 1) * k) c = _
      rw [t6]
    | cr b a k =>
      have un : ∀ g : Fm, units ([], 1) g = 1 := fun g => units_none 1 g
      have t2 : (([] : List (Int × Int)), (k * 1 * k) * units ([], 1) (.cr b a (k * 1 * k))) = ([], k * units ([], 1) (.cr b a k)) := t1
      rw [un, un, Int.mul_one, Int.mul_one k] at t2
      injection t2 with t3 t4
      show Fm.cr b a (k * 1 * k) = _
      rw [Int.mul_one, t4]
end Lw
namespace Lw
open PySem PySem.Spec L2 Lx
theorem fm_dq' {K : PySem.W.Frag} {H : Hp} {x : V} {f : Fm} : FmAt K H x f → Dq K H x (fdt f) := fun ⟨p, e, h⟩ => by
  subst e
  cases f with
  | keep b a => exact .tup (SqT.tt h) h (.cons (.str _) (.cons (.int _) (.cons (.int _) .nil)))
  | lf b a k c => exact .tup (SqT.tt h) h (.cons (.str _) (.cons (.int _) (.cons (.int _) (.cons (.int _) (.cons (.int _) .nil)))))
  | cr b a k => exact .tup (SqT.tt h) h (.cons (.str _) (.cons (.int _) (.cons (.int _) (.cons (.int _) .nil))))
theorem fdt_self (f : Fm) : PyData.eqv (fdt f) (fdt f) = true := (fdt_eqv f f).mpr rfl
/-! ### joined forms -/
theorem kk_assoc (b a b' a' b'' a'' : Int) (h1 : 0 ≤ a) (h2 : 0 ≤ b') (h3 : 0 ≤ a') (h4 : 0 ≤ b'') :
    (b + (if b' - a > 0 then b' - a else 0)) + (if b'' - ((if a - b' > 0 then a - b' else 0) + a') > 0 then b'' - ((if a - b' > 0 then a - b' else 0) + a') else 0) =
      b + (if (b' + (if b'' - a' > 0 then b'' - a' else 0)) - a > 0 then (b' + (if b'' - a' > 0 then b'' - a' else 0)) - a else 0) ∧
    (if ((if a - b' > 0 then a - b' else 0) + a') - b'' > 0 then ((if a - b' > 0 then a - b' else 0) + a') - b'' else 0) + a'' =
      (if a - (b' + (if b'' - a' > 0 then b'' - a' else 0)) > 0 then a - (b' + (if b'' - a' > 0 then b'' - a' else 0)) else 0) + ((if a' - b'' > 0 then a' - b'' else 0) + a'') := by
  have p1 := pp (b' - a)
  have p2 := pp (a - b')
  have p3 := pp (b'' - a')
  have p4 := pp (a' - b'')
  generalize (if b' - a > 0 then b' - a else 0) = A at *
  generalize (if a - b' > 0 then a - b' else 0) = B at *
  generalize (if b'' - a' > 0 then b'' - a' else 0) = C at *
  generalize (if a' - b'' > 0 then a' - b'' else 0) = D at *
  have p5 := pp (b'' - (B + a'))
  have p6 := pp (B + a' - b'')
  have p7 := pp (b' + C - a)
  have p8 := pp (a - (b' + C))
  generalize (if b'' - (B + a') > 0 then b'' - (B + a') else 0) = E at *
  generalize (if B + a' - b'' > 0 then B + a' - b'' else 0) = F at *
  generalize (if b' + C - a > 0 then b' + C - a else 0) = G at *
  generalize (if a - (b' + C) > 0 then a - (b' + C) else 0) = I at *
  constructor <;> omega
theorem both_assoc {n : Nat} {f g h : Fm} (of : f.Ok n) (og : g.Ok n) (oh : h.Ok n) : (f.both g).both h = f.both (g.both h) := by
  have fa := of.a0.1
  have gb := og.b0.1
  have ga := og.a0.1
  have hb := oh.b0.1
  cases f with
  | keep b a =>
    cases g with
    | keep b' a' =>
      have e := kk_assoc b a b' a' h.b h.a fa gb ga hb
      cases h with
      | keep b'' a'' =>
        show Fm.keep _ _ = Fm.keep _ _
        exact congr (congrArg Fm.keep e.1) e.2
      | lf b'' a'' k'' c'' =>
        show Fm.lf _ _ _ _ = Fm.lf _ _ _ _
        exact congrFun (congrFun (congr (congrArg Fm.lf e.1) e.2) k'') c''
      | cr b'' a'' k'' =>
        show Fm.cr _ _ _ = Fm.cr _ _ _
        exact congrFun (congr (congrArg Fm.cr e.1) e.2) k''
    | lf b' a' k' c' => cases h <;> rfl
    | cr b' a' k' => cases h <;> rfl
  | lf b a k c =>
    cases g with
    | keep b' a' =>
      have e := after_both b' a' h c
      cases h with
      | keep b'' a'' =>
        show Fm.lf b a k _ = Fm.lf b a k _
        exact congrArg (Fm.lf b a k) e
      | lf b'' a'' k'' c'' =>
        show Fm.lf b a (k * ((Fm.lf b'' a'' k'' c'').after ((Fm.keep b' a').after c) + 1) * k'') c'' = Fm.lf b a (k * (((Fm.keep b' a').both (.lf b'' a'' k'' c'')).after c + 1) * k'') c''
        rw [e]
      | cr b'' a'' k'' =>
        show Fm.cr b a (k * ((Fm.cr b'' a'' k'').after ((Fm.keep b' a').after c) + 1) * k'') = Fm.cr b a (k * (((Fm.keep b' a').both (.cr b'' a'' k'')).after c + 1) * k'')
        rw [e]
    | lf b' a' k' c' =>
      cases h with
      | keep b'' a'' => rfl
      | lf b'' a'' k'' c'' =>
        show Fm.lf b a (k * ((Fm.lf b' a' k' c').after c + 1) * k' * ((Fm.lf b'' a'' k'' c'').after c' + 1) * k'') c'' = Fm.lf b a (k * ((Fm.lf b' a' k' c').after c + 1) * (k' * ((Fm.lf b'' a'' k'' c'').after c' + 1) * k'')) c''
        rw [← Int.mul_assoc, ← Int.mul_assoc]
      | cr b'' a'' k'' =>
        show Fm.cr b a (k * ((Fm.lf b' a' k' c').after c + 1) * k' * ((Fm.cr b'' a'' k'').after c' + 1) * k'') = Fm.cr b a (k * ((Fm.lf b' a' k' c').after c + 1) * (k' * ((Fm.cr b'' a'' k'').after c' + 1) * k''))
        rw [← Int.mul_assoc, ← Int.mul_assoc]
    | cr b' a' k' =>
      cases h with
      | keep b'' a'' => rfl
      | lf b'' a'' k'' c'' =>
        show Fm.lf b a (k * ((Fm.cr b' a' k').after c + 1) * k' * 1 * k'') c'' = Fm.lf b a (k * ((Fm.cr b' a' k').after c + 1) * (k' * 1 * k'')) c''
        rw [← Int.mul_assoc, ← Int.mul_assoc]
      | cr b'' a'' k'' =>
        show Fm.cr b a (k * ((Fm.cr b' a' k').after c + 1) * k' * 1 * k'') = Fm.cr b a (k * ((Fm.cr b' a' k').after c + 1) * (k' * 1 * k''))
        rw [← Int.mul_assoc, ← Int.mul_assoc]
  | cr b a k =>
    cases g with
    | keep b' a' =>
      cases h <;> rfl
    | lf b' a' k' c' =>
      cases h with
      | keep b'' a'' => rfl
      | lf b'' a'' k'' c'' =>
        show Fm.lf b a (k * 1 * k' * ((Fm.lf b'' a'' k'' c'').after c' + 1) * k'') c'' = Fm.lf b a (k * 1 * (k' * ((Fm.lf b'' a'' k'' c'').after c' + 1) * k'')) c''
        rw [← Int.mul_assoc, ← Int.mul_assoc]
      | cr b'' a'' k'' =>
        show Fm.cr b a (k * 1 * k' * ((Fm.cr b'' a'' k'').after c' + 1) * k'') = Fm.cr b a (k * 1 * (k' * ((Fm.cr b'' a'' k'').after c' + 1) * k''))
        rw [← Int.mul_assoc, ← Int.mul_assoc]
    | cr b' a' k' =>
      cases h with
      | keep b'' a'' => rfl
      | lf b'' a'' k'' c'' =>
        show Fm.lf b a (k * 1 * k' * 1 * k'') c'' = Fm.lf b a (k * 1 * (k' * 1 * k'')) c''
        rw [← Int.mul_assoc, ← Int.mul_assoc]
      | cr b'' a'' k'' =>
        show Fm.cr b a (k * 1 * k' * 1 * k'') = Fm.cr b a (k * 1 * (k' * 1 * k''))
        rw [← Int.mul_assoc, ← Int.mul_assoc]
theorem both_nothing {n : Nat} {f : Fm} (of : f.Ok n) : f.both nothing = f := by
  have ha := of.a0.1
  cases f with
  | keep b a =>
    have p1 := pp (0 - a)
    have p2 := pp (a - 0)
    show Fm.keep (b + (if 0 - a > 0 then 0 - a else 0)) ((if a - 0 > 0 then a - 0 else 0) + 0) = _
    have ha' : 0 ≤ a := ha
    congr 1 <;> omega
  | lf b a k c =>
    show Fm.lf b a k (nothing.after c) = _
    rw [after_nothing of.2.2.2.1]
  | cr b a k => rfl
theorem nothing_both {n : Nat} {f : Fm} (of : f.Ok n) : nothing.both f = f := by
  have hb := of.b0.1
  have p1 := pp (f.b - 0)
  have p2 := pp (0 - f.b)
  have e1 : 0 + (if f.b - 0 > 0 then f.b - 0 else 0) = f.b := by omega
  have e2 : (if 0 - f.b > 0 then 0 - f.b else 0) + f.a = f.a := by omega
  have e : nothing.both f = Fm.ahead (0 + (if f.b - 0 > 0 then f.b - 0 else 0)) ((if 0 - f.b > 0 then 0 - f.b else 0) + f.a) f := rfl
  rw [e, e1, e2]
  cases f <;> rfl
theorem nothing_ok (n : Nat) : nothing.Ok n := ⟨by decide, by decide, Nat.two_pow_pos n, Nat.two_pow_pos n⟩
theorem both_ok {n : Nat} (hn : 0 < n) {f g : Fm} (of : f.Ok n) (og : g.Ok n) : (f.both g).Ok (3 * n + 3) := by
  have gb := og.b0
  have ga := og.a0
  have o1 : Sm n 1 := Nat.lt_of_lt_of_le (by decide : (1 : Int).natAbs < 2 ^ 1) (Nat.pow_le_pow_right (by decide) hn)
  cases f with
  | keep b a =>
    obtain ⟨b0, a0, sb, sa⟩ := of
    have p1 := pp (g.b - a)
    have p2 := pp (a - g.b)
    have hB : 0 ≤ b + (if g.b - a > 0 then g.b - a else 0) ∧ Sm (3 * n + 3) (b + (if g.b - a > 0 then g.b - a else 0)) := ⟨by omega, (Sm.of_le (by omega) (show b + (if g.b - a > 0 then g.b - a else 0) ≤ b + g.b by omega) (sb.add gb.2)).mono (by omega)⟩
    have hA : 0 ≤ (if a - g.b > 0 then a - g.b else 0) + g.a ∧ Sm (3 * n + 3) ((if a - g.b > 0 then a - g.b else 0) + g.a) := ⟨by omega, (Sm.of_le (by omega) (show (if a - g.b > 0 then a - g.b else 0) + g.a ≤ a + g.a by omega) (sa.add ga.2)).mono (by omega)⟩
    cases g with
    | keep b' a' => exact ⟨hB.1, hA.1, hB.2, hA.2⟩
    | lf b' a' k' c' =>
      obtain ⟨_, _, k0, c0, _, _, sk, sc⟩ := og
      exact ⟨hB.1, hA.1, k0, c0, hB.2, hA.2, sk.mono (by omega), sc.mono (by omega)⟩
    | cr b' a' k' =>
      obtain ⟨_, _, k0, _, _, sk⟩ := og
      exact ⟨hB.1, hA.1, k0, hB.2, hA.2, sk.mono (by omega)⟩
  | lf b a k c =>
    obtain ⟨b0, a0, k0, c0, sb, sa, sk, sc⟩ := of
    have hc := Fm.after_ok og c0 sc
    have hu : 0 < g.after c + 1 ∧ Sm (n + 2) (g.after c + 1) := ⟨by have := hc.1; omega, hc.2.add (o1.mono (Nat.le_succ n))⟩
    cases g with
    | keep b' a' => exact ⟨b0, a0, k0, hc.1, sb.mono (by omega), sa.mono (by omega), sk.mono (by omega), hc.2.mono (by omega)⟩
    | lf b' a' k' c' =>
      obtain ⟨_, _, k0', c0', _, _, sk', sc'⟩ := og
      exact ⟨b0, a0, Int.mul_pos (Int.mul_pos k0 hu.1) k0', c0', sb.mono (by omega), sa.mono (by omega), ((sk.mul hu.2).mul sk').mono (by omega), sc'.mono (by omega)⟩
    | cr b' a' k' =>
      obtain ⟨_, _, k0', _, _, sk'⟩ := og
      exact ⟨b0, a0, Int.mul_pos (Int.mul_pos k0 hu.1) k0', sb.mono (by omega), sa.mono (by omega), ((sk.mul hu.2).mul sk').mono (by omega)⟩
  | cr b a k =>
    obtain ⟨b0, a0, k0, sb, sa, sk⟩ := of
    cases g with
    | keep b' a' => exact ⟨b0, a0, k0, sb.mono (by omega), sa.mono (by omega), sk.mono (by omega)⟩
    | lf b' a' k' c' =>
      obtain ⟨_, _, k0', c0', _, _, sk', sc'⟩ := og
      exact ⟨b0, a0, Int.mul_pos (Int.mul_pos k0 (by decide)) k0', c0', sb.mono (by omega), sa.mono (by omega), ((sk.mul o1).mul sk').mono (by omega), sc'.mono (by omega)⟩
    | cr b' a' k' =>
      obtain ⟨_, _, k0', _, _, sk'⟩ := og
      exact ⟨b0, a0, Int.mul_pos (Int.mul_pos k0 (by decide)) k0', sb.mono (by omega), sa.mono (by omega), ((sk.mul o1).mul sk').mono (by omega)⟩
/-! ### a form many times -/
def fp (f : Fm) : Nat → Fm
  | 0 => nothing
  | n + 1 => (fp f n).both f
theorem fp_ok {m : Nat} {f : Fm} (h : f.Ok m) : ∀ n : Nat, ∃ k, (fp f n).Ok k
  | 0 => ⟨0, nothing_ok 0⟩
  | n + 1 => by
    obtain ⟨k, hk⟩ := fp_ok h n
    exact ⟨_, both_ok (n := max k m + 1) (by omega) (hk.mono (by omega)) (h.mono (by omega))⟩
theorem fp_one {m : Nat} {f : Fm} (h : f.Ok m) : fp f 1 = f := nothing_both h
theorem fp_add {m : Nat} {f : Fm} (h : f.Ok m) (i : Nat) : ∀ j : Nat, (fp f i).both (fp f j) = fp f (i + j)
  | 0 => by
    obtain ⟨k, hk⟩ := fp_ok h i
    exact both_nothing hk
  | j + 1 => by
    obtain ⟨k, hk⟩ := fp_ok h i
    obtain ⟨k', hk'⟩ := fp_ok h j
    show (fp f i).both ((fp f j).both f) = (fp f (i + j)).both f
    rw [← both_assoc (n := max (max k k') m) (hk.mono (by omega)) (hk'.mono (by omega)) (h.mono (by omega)), fp_add h i j]
theorem fp_keep {b a : Int} (b0 : 0 ≤ b) (a0 : 0 ≤ a) : ∀ n : Nat, ∃ B A, fp (.keep b a) n = .keep B A ∧ 0 ≤ B ∧ B ≤ n * b ∧ 0 ≤ A ∧ A ≤ n * a
  | 0 => ⟨0, 0, rfl, by decide, by simp, by decide, by simp⟩
  | n + 1 => by
    obtain ⟨B, A, e, h1, h2, h3, h4⟩ := fp_keep b0 a0 n
    have p1 := pp (b - A)
    have p2 := pp (A - b)
    refine ⟨B + (if b - A > 0 then b - A else 0), (if A - b > 0 then A - b else 0) + a, ?_, by omega, ?_, by omega, ?_⟩
    · show (fp (.keep b a) n).both (.keep b a) = _
      rw [e]
      rfl
    · rw [Int.natCast_add, Int.add_mul]
      simp only [Int.natCast_one, Int.one_mul]
      omega
    · rw [Int.natCast_add, Int.add_mul]
      simp only [Int.natCast_one, Int.one_mul]
      omega
theorem fp_lf {m : Nat} {b a k c : Int} (h : (Fm.lf b a k c).Ok m) (hm : 0 < m) : ∀ n : Nat, ∃ K, fp (.lf b a k c) (n + 1) = .lf b a K c ∧ 0 < K ∧ Sm ((n + 1) * (2 * m + 2)) K
  | 0 => ⟨k, fp_one h, h.2.2.1, h.2.2.2.2.2.2.1.mono (by omega)⟩
  | n + 1 => by
    obtain ⟨K, e, K0, K1⟩ := fp_lf h hm n
    have hc := Fm.after_ok h h.2.2.2.1 h.2.2.2.2.2.2.2
    have o1 : Sm m 1 := Nat.lt_of_lt_of_le (by decide : (1 : Int).natAbs < 2 ^ 1) (Nat.pow_le_pow_right (by decide) hm)
    have hu : 0 < (Fm.lf b a k c).after c + 1 ∧ Sm (m + 2) ((Fm.lf b a k c).after c + 1) := ⟨by have := hc.1; omega, hc.2.add (o1.mono (Nat.le_succ m))⟩
    refine ⟨K * ((Fm.lf b a k c).after c + 1) * k, ?_, Int.mul_pos (Int.mul_pos K0 hu.1) h.2.2.1, ((K1.mul hu.2).mul h.2.2.2.2.2.2.1).mono ?_⟩
    · show (fp (.lf b a k c) (n + 1)).both (.lf b a k c) = _
      rw [e]
      rfl
    · have : (n + 1 + 1) * (2 * m + 2) = (n + 1) * (2 * m + 2) + (2 * m + 2) := by rw [Nat.add_mul (n + 1) 1, Nat.one_mul]
      omega
theorem fp_cr {m : Nat} {b a k : Int} (h : (Fm.cr b a k).Ok m) (hm : 0 < m) : ∀ n : Nat, ∃ K, fp (.cr b a k) (n + 1) = .cr b a K ∧ 0 < K ∧ Sm ((n + 1) * (2 * m + 2)) K
  | 0 => ⟨k, fp_one h, h.2.2.1, h.2.2.2.2.2.mono (by omega)⟩
  | n + 1 => by
    obtain ⟨K, e, K0, K1⟩ := fp_cr h hm n
    have o1 : Sm m 1 := Nat.lt_of_lt_of_le (by decide : (1 : Int).natAbs < 2 ^ 1) (Nat.pow_le_pow_right (by decide) hm)
    refine ⟨K * 1 * k, ?_, Int.mul_pos (Int.mul_pos K0 (by decide)) h.2.2.1, ((K1.mul o1).mul h.2.2.2.2.2).mono ?_⟩
    · show (fp (.cr b a k) (n + 1)).both (.cr b a k) = _
      rw [e]
      rfl
    · have : (n + 1 + 1) * (2 * m + 2) = (n + 1) * (2 * m + 2) + (2 * m + 2) := by rw [Nat.add_mul (n + 1) 1, Nat.one_mul]
      omega
/-- how often a form may be repeated here -/
def Often (f : Fm) (n : Nat) : Prop := n ≤ 100 ∨ (Fm.isKeep f = true ∧ n ≤ 2 ^ 100)
theorem Often.le {f : Fm} {n m : Nat} (h : Often f n) (k : m ≤ n) : Often f m := by
  rcases h with h | ⟨h1, h2⟩
  · exact .inl (by omega)
  · exact .inr ⟨h1, Nat.le_trans k h2⟩
theorem fp_sm {m : Nat} {f : Fm} (h : f.Ok m) (hm : 0 < m) (hm2 : m ≤ 440) {n : Nat} (o : Often f n) : (fp f n).Ok 90000 := by
  cases f with
  | keep b a =>
    obtain ⟨b0, a0, sb, sa⟩ := h
    obtain ⟨B, A, e, h1, h2, h3, h4⟩ := fp_keep b0 a0 n
    have hn : n ≤ 2 ^ 100 := by
      rcases o with o | o
      · exact Nat.le_trans o (by decide +kernel)
      · exact o.2
    have sn : Sm 101 (n : Int) := by
      unfold Sm
      have : (2 : Nat) ^ 101 = 2 ^ 100 * 2 := Nat.pow_succ ..
      omega
    rw [e]
    exact ⟨h1, h3, (Sm.of_le h1 h2 (sn.mul sb)).mono (by omega), (Sm.of_le h3 h4 (sn.mul sa)).mono (by omega)⟩
  | lf b a k c =>
    have hn : n ≤ 100 := by
      rcases o with o | o
      · exact o
      · cases o.1
    cases n with
    | zero => exact nothing_ok _
    | succ n =>
      obtain ⟨K, e, K0, K1⟩ := fp_lf h hm n
      obtain ⟨b0, a0, k0, c0, sb, sa, sk, sc⟩ := h
      rw [e]
      have : (n + 1) * (2 * m + 2) ≤ 100 * 882 := Nat.mul_le_mul (by omega) (by omega)
      exact ⟨b0, a0, K0, c0, sb.mono (by omega), sa.mono (by omega), K1.mono (by omega), sc.mono (by omega)⟩
  | cr b a k =>
    have hn : n ≤ 100 := by
      rcases o with o | o
      · exact o
      · cases o.1
    cases n with
    | zero => exact nothing_ok _
    | succ n =>
      obtain ⟨K, e, K0, K1⟩ := fp_cr h hm n
      obtain ⟨b0, a0, k0, sb, sa, sk⟩ := h
      rw [e]
      have : (n + 1) * (2 * m + 2) ≤ 100 * 882 := Nat.mul_le_mul (by omega) (by omega)
      exact ⟨b0, a0, K0, sb.mono (by omega), sa.mono (by omega), K1.mono (by omega)⟩
end Lw
namespace Lw
open PySem PySem.Spec L2 Lx
/-! ### chains put together -/
theorem formL_fle (k : Nat) : ∀ cs : List Nat, cs.length = k → k ≤ 7000 → (∀ c ∈ cs, c ∈ steps.cps.toList) → FLe k (formL cs) := by
  induction k with
  | zero =>
    intro cs e _ _
    rw [List.eq_nil_of_length_eq_zero e]
    exact ⟨by decide, by decide, by decide, by decide⟩
  | succ k ih =>
    intro cs e hk hc
    rcases snoc_or cs with rfl | ⟨ds, c, rfl⟩
    · cases e
    · have ed : ds.length = k := by simpa using e
      have h := ih ds ed (by omega) fun x hx => hc x (List.mem_append.mpr (.inl hx))
      have e2 : formL (ds ++ [c]) = (formL ds).both (stepF c) := by unfold formL; rw [List.foldl_append]; rfl
      rw [e2]
      exact h.step (by omega) (hc c (by simp))
theorem step_ok {c : Nat} (h : c ∈ steps.cps.toList) {n : Nat} (hn : 0 < n) : (stepF c).Ok n := by
  have one : Sm n 1 := Nat.lt_of_lt_of_le (by decide : (1 : Int).natAbs < 2 ^ 1) (Nat.pow_le_pow_right (by decide) hn)
  have zer : Sm n 0 := Nat.two_pow_pos n
  rcases step_cases h with e | e | e | e <;> rw [e]
  · exact ⟨by decide, by decide, zer, one⟩
  · exact ⟨by decide, by decide, one, zer⟩
  · exact ⟨by decide, by decide, by decide, by decide, zer, zer, one, zer⟩
  · exact ⟨by decide, by decide, by decide, zer, zer, one⟩
theorem formL_app7 (a : List Nat) (ha : ∀ c ∈ a, c ∈ steps.cps.toList) (n : Nat) : ∀ b : List Nat, b.length = n → (∀ c ∈ b, c ∈ steps.cps.toList) → a.length + b.length ≤ 7000 → formL (a ++ b) = (formL a).both (formL b) := by
  induction n with
  | zero =>
    intro b e _ hl
    rw [List.eq_nil_of_length_eq_zero e, List.append_nil]
    exact (both_nothing (formL_fle _ a rfl (by omega) ha).ok).symm
  | succ n ih =>
    intro b e hb hl
    rcases snoc_or b with rfl | ⟨ds, c, rfl⟩
    · cases e
    · have ed : ds.length = n := by simpa using e
      have hd : ∀ x ∈ ds, x ∈ steps.cps.toList := fun x hx => hb x (List.mem_append.mpr (.inl hx))
      have hc := hb c (by simp)
      have hl2 : (ds ++ [c]).length = ds.length + 1 := by simp
      have e2 : ∀ xs : List Nat, formL (xs ++ [c]) = (formL xs).both (stepF c) := fun xs => by unfold formL; rw [List.foldl_append]; rfl
      rw [← List.append_assoc, e2, ih ds ed hd (by omega), e2]
      have oa := (formL_fle _ a rfl (by omega) ha).ok
      have ob := (formL_fle _ ds rfl (by omega) hd).ok
      refine both_assoc (n := 13 * 7000 + 1) (oa.mono (by omega)) (ob.mono (by omega)) (step_ok hc (by omega))
theorem formOf_app {x y : Str} (hx : ChOk x) (hy : ChOk y) (hl : x.cps.size + y.cps.size ≤ 7000) : formOf (x ++ y) = (formOf x).both (formOf y) := by
  have e : (x ++ y).cps.toList = x.cps.toList ++ y.cps.toList := Array.toList_append ..
  unfold formOf
  rw [e]
  exact formL_app7 _ hx _ _ rfl hy (by rw [Array.length_toList, Array.length_toList]; exact hl)
theorem ChOk.app {x y : Str} (hx : ChOk x) (hy : ChOk y) : ChOk (x ++ y) := fun c hc => by
  have e : (x ++ y).cps.toList = x.cps.toList ++ y.cps.toList := Array.toList_append ..
  rw [e] at hc
  rcases List.mem_append.mp hc with h | h
  · exact hx c h
  · exact hy c h
theorem app_sz (x y : Str) : (x ++ y).cps.size = x.cps.size + y.cps.size := Array.size_append ..
theorem formOf_fle {x : Str} (hx : ChOk x) (hl : x.cps.size ≤ 7000) : FLe x.cps.size (formOf x) := formL_fle _ _ (Array.length_toList ..) hl hx
theorem formOf_ok {x : Str} (hx : ChOk x) (hl : x.cps.size ≤ 7000) : (formOf x).Ok 91001 := (formOf_fle hx hl).ok.mono (by omega)
/-! ### copies by name -/
inductive Ents (K : PySem.W.Frag) (H : Hp) : List (Key × V) → List (Str × Str) → Prop
  | nil : Ents K H [] []
  | cons {kvs : List (Key × V)} {zs : List (Str × Str)} {v : V} {n z : Str} : FmAt K H v (formOf z) → Ents K H kvs zs → Ents K H ((.inr n, v) :: kvs) ((n, z) :: zs)
theorem Ents.same {K : PySem.W.Frag} {H H' : Hp} (s : ∀ v f, FmAt K H v f → FmAt K H' v f) : ∀ {kvs : List (Key × V)} {zs : List (Str × Str)}, Ents K H kvs zs → Ents K H' kvs zs
  | _, _, .nil => .nil
  | _, _, .cons h t => .cons (s _ _ h) (t.same s)
theorem Ents.len {K : PySem.W.Frag} {H : Hp} : ∀ {kvs : List (Key × V)} {zs : List (Str × Str)}, Ents K H kvs zs → kvs.length = zs.length
  | _, _, .nil => rfl
  | _, _, .cons _ t => by rw [List.length_cons, List.length_cons, t.len]
theorem Ents.get {K : PySem.W.Frag} {H : Hp} {n z : Str} : ∀ {kvs : List (Key × V)} {zs : List (Str × Str)}, Ents K H kvs zs → zs.lookup n = some z → ∃ v, valV kvs (.inr n) = some v ∧ FmAt K H v (formOf z)
  | _, _, .nil, e => by cases e
  | _, _, .cons (n := m) (z := y) (v := v) (kvs := kvs) (zs := zs) h t, e => by
    by_cases c : m = n
    · subst c
      rw [List.lookup_cons_self] at e
      cases e
      exact ⟨v, valV_pos rfl, h⟩
    · rw [List.lookup_cons, show (n == m) = false from beq_false_of_ne (Ne.symm c)] at e
      obtain ⟨u, h1, h2⟩ := Ents.get t e
      exact ⟨u, (valV_neg (fun z => c (Sum.inr.inj z))).trans h1, h2⟩
/-- in its place, or at the end -/
def putZ : List (Str × Str) → Str → Str → List (Str × Str)
  | [], n, z => [(n, z)]
  | (m, y) :: r, n, z => if m = n then (m, z) :: r else (m, y) :: putZ r n z
theorem putZ_len : ∀ (zs : List (Str × Str)) (n z : Str), (putZ zs n z).length ≤ zs.length + 1
  | [], _, _ => Nat.le_refl _
  | (m, y) :: r, n, z => by
    have := putZ_len r n z
    unfold putZ
    split
    · exact Nat.le_succ _
    · show _ + 1 ≤ _ + 1 + 1
      omega
theorem putZ_get (n z m : Str) : ∀ zs : List (Str × Str), (putZ zs n z).lookup m = if m = n then some z else zs.lookup m
  | [] => by
    show List.lookup m [(n, z)] = _
    rw [List.lookup_cons]
    by_cases c : m = n
    · subst c
      simp
    · rw [show (m == n) = false from beq_false_of_ne c, if_neg c]
  | (k, y) :: r => by
    unfold putZ
    by_cases c : k = n
    · subst c
      rw [if_pos rfl, List.lookup_cons, List.lookup_cons]
      by_cases d : m = k
      · subst d
        simp
      · rw [show (m == k) = false from beq_false_of_ne d, if_neg d]
    · rw [if_neg c, List.lookup_cons, List.lookup_cons, putZ_get n z m r]
      by_cases d : m = k
      · subst d
        rw [if_neg c]
        simp [c]
      · rw [show (m == k) = false from beq_false_of_ne d]
/-- no name twice -/
def NdZ (zs : List (Str × Str)) : Prop := (zs.map Prod.fst).Nodup
theorem map_same {kvs : List (Key × V)} {n : Str} {v : V} (h : ∀ kv ∈ kvs, kv.1 ≠ .inr n) : kvs.map (fun kv => if kv.1 = .inr n then (kv.1, v) else kv) = kvs := by
  induction kvs with
  | nil => rfl
  | cons p r ih =>
    rw [List.map_cons, ih fun kv hkv => h kv (List.mem_cons_of_mem _ hkv), if_neg (h p (List.mem_cons_self ..))]
theorem Ents.keys {K : PySem.W.Frag} {H : Hp} {n : Str} : ∀ {kvs : List (Key × V)} {zs : List (Str × Str)}, Ents K H kvs zs → n ∉ zs.map Prod.fst → ∀ kv ∈ kvs, kv.1 ≠ .inr n
  | _, _, .nil, _, kv, hkv => by cases hkv
  | _, _, .cons (n := m) h t, hn, kv, hkv => by
    rcases List.mem_cons.mp hkv with rfl | hkv
    · exact fun e => hn (List.mem_cons.mpr (.inl (Sum.inr.inj e).symm))
    · exact Ents.keys t (fun e => hn (List.mem_cons_of_mem _ e)) kv hkv
theorem Ents.put {K : PySem.W.Frag} {H : Hp} {n z : Str} {v : V} (hv : FmAt K H v (formOf z)) : ∀ {kvs : List (Key × V)} {zs : List (Str × Str)}, Ents K H kvs zs → NdZ zs → Ents K H (putK kvs (.inr n) v) (putZ zs n z)
  | _, _, .nil, _ => .cons hv .nil
  | _, _, .cons (n := m) (z := y) (v := u) (kvs := kvs) (zs := zs) h t, nd => by
    have nd' : m ∉ zs.map Prod.fst ∧ NdZ zs := List.nodup_cons.mp nd
    unfold putZ
    by_cases c : m = n
    · subst c
      have e : putK ((.inr m, u) :: kvs) (.inr m : Key) v = (.inr m, v) :: kvs := by
        unfold putK
        rw [if_pos (by simp), List.map_cons, if_pos rfl, map_same (t.keys nd'.1)]
      rw [e, if_pos rfl]
      exact .cons hv t
    · have ih := Ents.put (n := n) hv t nd'.2
      have cn : ¬ ((.inr m : Key) = .inr n) := fun e => c (Sum.inr.inj e)
      have e : putK ((.inr m, u) :: kvs) (.inr n : Key) v = (.inr m, u) :: putK kvs (.inr n) v := by
        unfold putK
        by_cases a : (kvs.any fun kv => decide (kv.1 = (.inr n : Key))) = true
        · rw [if_pos (by rw [List.any_cons, a]; simp), if_pos a, List.map_cons, if_neg cn]
        · rw [if_neg (by rw [List.any_cons, decide_eq_false cn]; simpa using a), if_neg a]
          rfl
      rw [e, if_neg c]
      exact .cons h ih
theorem putZ_mem {n z : Str} : ∀ {zs : List (Str × Str)} {m : Str}, m ∈ (putZ zs n z).map Prod.fst → m = n ∨ m ∈ zs.map Prod.fst
  | [], m, h => .inl (by simpa [putZ] using h)
  | (k, y) :: r, m, h => by
    unfold putZ at h
    by_cases c : k = n
    · rw [if_pos c] at h
      exact .inr h
    · rw [if_neg c] at h
      rcases List.mem_cons.mp h with rfl | h
      · exact .inr (List.mem_cons_self ..)
      · exact (putZ_mem h).imp id fun q => List.mem_cons_of_mem _ q
theorem putZ_nd {n z : Str} : ∀ {zs : List (Str × Str)}, NdZ zs → NdZ (putZ zs n z)
  | [], _ => by unfold NdZ putZ; simp
  | (k, y) :: r, h => by
    have h' : k ∉ r.map Prod.fst ∧ NdZ r := List.nodup_cons.mp h
    unfold putZ
    by_cases c : k = n
    · rw [if_pos c]
      exact h
    · rw [if_neg c]
      refine List.nodup_cons.mpr ⟨fun hm => ?_, putZ_nd h'.2⟩
      rcases putZ_mem hm with e | e
      · exact c e
      · exact h'.1 e
/-- chains that may be put together with k letters more -/
def ZOk (L : Nat) (zs : List (Str × Str)) : Prop := ∀ n z, zs.lookup n = some z → ChOk z ∧ z.cps.size ≤ L
theorem ZOk.put {L : Nat} {zs : List (Str × Str)} {n z : Str} (h : ZOk L zs) (hz : ChOk z) (hl : z.cps.size ≤ L) : ZOk L (putZ zs n z) := fun m y e => by
  rw [putZ_get] at e
  by_cases c : m = n
  · rw [if_pos c] at e
    cases e
    exact ⟨hz, hl⟩
  · rw [if_neg c] at e
    exact h m y e
theorem ZOk.mono {L L' : Nat} {zs : List (Str × Str)} (h : ZOk L zs) (k : L ≤ L') : ZOk L' zs := fun n z e => ⟨(h n z e).1, Nat.le_trans (h n z e).2 k⟩
/-- a depot stands at p, its dict at d -/
structure DepAt (K : PySem.W.Frag) (C : Addr) (H : Hp) (p d : Addr) (zs : List (Str × Str)) : Prop where
  ob : ∃ dx, H p = some (.ins C dx [("_forms", .ref d)])
  dc : ∃ kvs, H d = some (.dK kvs) ∧ Ents K H kvs zs
  nd : NdZ zs
theorem DepAt.same {K : PySem.W.Frag} {C : Addr} {H H' : Hp} {p d : Addr} {zs : List (Str × Str)} (s : Same H H') (h : DepAt K C H p d zs) : DepAt K C H' p d zs := by
  obtain ⟨⟨dx, h1⟩, ⟨kvs, h2, h3⟩, h4⟩ := h
  exact ⟨⟨dx, s _ _ h1⟩, ⟨kvs, s _ _ h2, h3.same fun v f hv => hv.same s⟩, h4⟩
/-- all but one address is as it was -/
def Kd (d : Addr) (H H' : Hp) : Prop := ∀ b o, b ≠ d → H b = some o → H' b = some o
theorem Kd.refl (d : Addr) (H : Hp) : Kd d H H := fun _ _ _ h => h
theorem Kd.trans {d : Addr} {H H1 H2 : Hp} (a : Kd d H H1) (b : Kd d H1 H2) : Kd d H H2 := fun c o h1 h => b c o h1 (a c o h1 h)
theorem Kd.of {d : Addr} {H H' : Hp} (s : Same H H') : Kd d H H' := fun b o _ h => s b o h
theorem FmAt.kd {K : PySem.W.Frag} {H H' : Hp} {d : Addr} {kvs : List (Key × V)} (hd : H d = some (.dK kvs)) (k : Kd d H H') {v : V} {f : Fm} : FmAt K H v f → FmAt K H' v f := fun ⟨p, h1, h2⟩ => ⟨p, h1, by
  rcases h2 with (h | ⟨o, h⟩) | h
  · exact .inl (.inl (k _ _ (ne_of h hd (by intro z; cases z)) h))
  · exact .inl (.inr ⟨o, k _ _ (ne_of h hd (by intro z; cases z)) h⟩)
  · exact .inr h⟩
end Lw
namespace Lw
open PySem PySem.Spec L2 Lx
theorem scSigns : FnScope ["j", "wanted"] ["j", "wanted"] (defScope sSigns) := ⟨rfl, rfl, rfl, by decide +kernel, rfl, by decide +kernel, by decide +kernel⟩
theorem scUog : FnScope ["j", "wanted"] ["j", "wanted"] (defScope sUog) := ⟨rfl, rfl, rfl, by decide +kernel, rfl, by decide +kernel, by decide +kernel⟩
def spUog (K : PySem.W.Frag) : Sp := fun vs H Q _ => ∃ j x f, vs = [.int j, x] ∧ FmAt K H x f ∧ Q (.int (f.after j + 1)) H
def spSigns (K : PySem.W.Frag) : Sp := fun vs H Q _ => ∃ j x f, vs = [.int j, x] ∧ FmAt K H x f ∧ Q (.int (f.after j)) H
section
variable {P : Program} {w : World} {K : PySem.W.Frag} {mg : Str → Option Value} {base : Heap} {aL aN aS : Addr}
theorem ok_signs {f : Addr} {fd : FuncData} {k : Nat} (F : Fun K "signs_after" "signs_after" sSigns f fd) (mX : mg "max" = none) : FnOk P w K mg base CX0 (k + 1) f fd ["j", "wanted"] (spSigns K) := by
  refine F.ok scSigns (fun vs H Q E h => ?_) (fun cdv A outer s H vs Q E hr h => ?_)
  · obtain ⟨j, x, f, rfl, _⟩ := h
    rfl
  · obtain ⟨j, _, f, rfl, ⟨p, rfl, hT⟩, q⟩ := h
    refine ⟨_, pss_one (ps_ret (pe_op op_add (pe_callB (call_max2 rfl) (by rfl) mX (by decide +kernel) (pa_cons pe_int (pa_cons (pe_op op_sub (pv 0) (pe_ix ix_tup (pv 1) pe_int (fun _ _ => rfl))) pa_nil))) (pe_ix ix_tup (pv 1) pe_int (fun _ _ => rfl)))), ?_⟩
    refine ⟨_, rfl, _, rfl, p, _, 1, _, rfl, rfl, hT, atI_nat (j := 1) f.vs1, _, _, rfl, rfl, _, _, rfl, _, rfl, p, _, 2, _, rfl, rfl, hT, atI_nat (j := 2) f.vs2, _, _, rfl, rfl, q⟩
theorem ok_uog {f fS : Addr} {fd fdS : FuncData} {k : Nat} (F : Fun K "units_of_group" "units_of_group" sUog f fd) (GS : FnOk P w K mg base CX0 k fS fdS ["j", "wanted"] (spSigns K)) (kS : PySem.W.keepIn K (.ref fS) = true) (bS : Binds K fdS ["j", "wanted"] []) (gS : mg "signs_after" = some (.ref fS)) :
    FnOk P w K mg base CX0 (k + 1) f fd ["j", "wanted"] (spUog K) := by
  refine F.ok scUog (fun vs H Q E h => ?_) (fun cdv A outer s H vs Q E hr h => ?_)
  · obtain ⟨j, x, f, rfl, _⟩ := h
    rfl
  · obtain ⟨j, x, f, rfl, hx, q⟩ := h
    refine ⟨_, pss_one (ps_ret (pe_op op_add (pe_call GS hr (by rfl) gS kS bS .nil pass0 (pa_cons (pv 0) (pa_cons (pv 1) pa_nil))) pe_int)), ?_⟩
    exact ⟨_, rfl, _, rfl, j, x, f, rfl, hx, _, _, rfl, rfl, q⟩
end
end Lw
namespace Lw
open PySem PySem.Spec L2 Lx
theorem scAftKeep : FnScope ["first", "second", "_", "b", "a", "more_b", "b_of_both", "a_of_both"] ["first", "second"] (defScope sAftKeep) := ⟨rfl, rfl, rfl, by decide +kernel, rfl, by decide +kernel, by decide +kernel⟩
theorem scBefKeep : FnScope ["first", "second"] ["first", "second"] (defScope sBefKeep) := ⟨rfl, rfl, rfl, by decide +kernel, rfl, by decide +kernel, by decide +kernel⟩
theorem scOne : FnScope ["first", "second"] ["first", "second"] (defScope sOne) := ⟨rfl, rfl, rfl, by decide +kernel, rfl, by decide +kernel, by decide +kernel⟩
def spAftKeep (K : PySem.W.Frag) : Sp := fun vs H Q _ => ∃ x y b a g, vs = [x, y] ∧ FmAt K H x (.keep b a) ∧ FmAt K H y g ∧ ∀ v H', Same H H' → FmAt K H' v ((Fm.keep b a).both g) → Q v H'
def spBefKeep (K : PySem.W.Frag) : Sp := fun vs H Q _ => ∃ x y f b a, vs = [x, y] ∧ FmAt K H x f ∧ Fm.isKeep f = false ∧ FmAt K H y (.keep b a) ∧ ∀ v H', Same H H' → FmAt K H' v (f.both (.keep b a)) → Q v H'
def spOne (K : PySem.W.Frag) : Sp := fun vs H Q _ => ∃ x y f g, vs = [x, y] ∧ FmAt K H x f ∧ Fm.isKeep f = false ∧ FmAt K H y g ∧ Q (.int (Fm.one f g)) H
section
variable {P : Program} {w : World} {K : PySem.W.Frag} {mg : Str → Option Value} {base : Heap} {aL aN aS : Addr}
theorem ok_one {f fS : Addr} {fd fdS : FuncData} {k : Nat} (F : Fun K "units_of_one" "units_of_one" sOne f fd) (GS : FnOk P w K mg base CX0 k fS fdS ["j", "wanted"] (spUog K)) (kS : PySem.W.keepIn K (.ref fS) = true) (bS : Binds K fdS ["j", "wanted"] []) (gS : mg "units_of_group" = some (.ref fS)) :
    FnOk P w K mg base CX0 (k + 1) f fd ["first", "second"] (spOne K) := by
  refine F.ok scOne (fun vs H Q E h => ?_) (fun cdv A outer s H vs Q E hr h => ?_)
  · obtain ⟨x, y, f, g, rfl, _⟩ := h
    rfl
  · obtain ⟨_, y, f, g, rfl, ⟨p, rfl, hT⟩, hk, hy, q⟩ := h
    refine ⟨_, pss_cons (ps_if (pt_cmpR op_eq (pe_ix ix_tup (pv 0) pe_int (fun _ _ => rfl)) pe_str (nomark _)) (pss_one (ps_ret pe_int)) pss_nil)
      (pss_one (ps_ret (pe_call GS hr (by rfl) gS kS bS .nil pass0 (pa_cons (pe_ix ix_tup (pv 0) pe_int (fun _ _ => rfl)) (pa_cons (pv 1) pa_nil))))), ?_⟩
    refine ⟨_, rfl, p, _, 0, _, rfl, rfl, hT, atI_nat (j := 0) f.vs0, rfl, _, rfl, ?_⟩
    cases f with
    | keep b a => cases hk
    | lf b a k c => exact iteF ⟨_, rfl, p, _, 4, _, rfl, rfl, hT, atI_nat (j := 4) rfl, _, rfl, _, _, _, rfl, hy, q⟩
    | cr b a k => exact iteT q
theorem ok_aftKeep {f : Addr} {fd : FuncData} {k : Nat} (F : Fun K "after_keep" "after_keep" sAftKeep f fd) (mX : mg "max" = none) : FnOk P w K mg base CX0 (k + 1) f fd ["first", "second"] (spAftKeep K) := by
  refine F.ok scAftKeep (fun vs H Q E h => ?_) (fun cdv A outer s H vs Q E hr h => ?_)
  · obtain ⟨x, y, b, a, g, rfl, _⟩ := h
    rfl
  · obtain ⟨_, _, b, a, g, rfl, ⟨p, rfl, hT⟩, ⟨r, rfl, hG⟩, q⟩ := h
    refine ⟨_, pss_cons (ps_asg (pv 0) (pg_tup (by rfl) (pgs_cons (pg_name (i := 2) scAftKeep.nd rfl (.inl rfl)) (pgs_cons (pg_name (i := 3) scAftKeep.nd rfl (.inl rfl)) (pgs_cons (pg_name (i := 4) scAftKeep.nd rfl (.inl rfl)) pgs_nil)))))
      (pss_cons (ps_set (i := 5) scAftKeep.nd rfl (.inl rfl) (pe_ix ix_tup (pv 1) pe_int (fun _ _ => rfl)))
      (pss_cons (ps_set (i := 6) scAftKeep.nd rfl (.inl rfl) (pe_op op_add (pv 3) (pe_callB (call_max2 rfl) (by rfl) mX (by decide +kernel) (pa_cons pe_int (pa_cons (pe_op op_sub (pv 5) (pv 4)) pa_nil)))))
      (pss_cons (ps_set (i := 7) scAftKeep.nd rfl (.inl rfl) (pe_op op_add (pe_callB (call_max2 rfl) (by rfl) mX (by decide +kernel) (pa_cons pe_int (pa_cons (pe_op op_sub (pv 4) (pv 5)) pa_nil))) (pe_ix ix_tup (pv 1) pe_int (fun _ _ => rfl))))
      (pss_one (ps_ret (pe_op op_catA (pe_tup (pa_cons (pe_ix ix_tup (pv 1) pe_int (fun _ _ => rfl)) (pa_cons (pv 6) (pa_cons (pv 7) pa_nil)))) (pe_slice sl_tup (pv 1) (po_some pe_int) po_none))))))), ?_⟩
    refine ⟨_, rfl, p, _, rfl, hT, rfl, _, _, rfl, _, _, rfl, _, _, rfl, rfl, ?_⟩
    refine ⟨_, rfl, r, _, 1, _, rfl, rfl, hG, atI_nat (j := 1) g.vs1, ?_⟩
    refine ⟨_, rfl, _, rfl, _, rfl, _, _, rfl, rfl, _, _, rfl, _, _, rfl, rfl, ?_⟩
    refine ⟨_, rfl, _, rfl, _, _, rfl, rfl, _, _, rfl, _, rfl, r, _, 2, _, rfl, rfl, hG, atI_nat (j := 2) g.vs2, _, _, rfl, rfl, ?_⟩
    refine ⟨_, rfl, r, _, 0, _, rfl, rfl, hG, atI_nat (j := 0) g.vs0, _, rfl, _, rfl, by show 3 ≤ sizeLine; decide, fun t nt => ?_⟩
    have s1 : Same H (upd H t (.tup [.str g.nm, .int (b + (if g.b - a > 0 then g.b - a else 0)), .int ((if a - g.b > 0 then a - g.b else 0) + g.a)])) := same_upd nt
    have ht1 : upd H t (.tup [.str g.nm, .int (b + (if g.b - a > 0 then g.b - a else 0)), .int ((if a - g.b > 0 then a - g.b else 0) + g.a)]) t = some (.tup [.str g.nm, .int (b + (if g.b - a > 0 then g.b - a else 0)), .int ((if a - g.b > 0 then a - g.b else 0) + g.a)]) := upd_same
    show tSl _ _ _ _ _ (upd H t (.tup [.str g.nm, .int (b + (if g.b - a > 0 then g.b - a else 0)), .int ((if a - g.b > 0 then a - g.b else 0) + g.a)])) _
    generalize upd H t (.tup [.str g.nm, .int (b + (if g.b - a > 0 then g.b - a else 0)), .int ((if a - g.b > 0 then a - g.b else 0) + g.a)]) = H1 at s1 ht1
    refine ⟨_, rfl, 3, rfl, r, g.vs, rfl, sameT s1 hG, wh3 g, fun p2 n2 => ?_⟩
    have s2 := s1.trans (same_upd (o := .tup (cutV g.vs (some 3) none)) n2)
    have ht2 : SqT K (upd H1 p2 (.tup (cutV g.vs (some 3) none))) t [.str g.nm, .int (b + (if g.b - a > 0 then g.b - a else 0)), .int ((if a - g.b > 0 then a - g.b else 0) + g.a)] := .inl (.inl (by rw [upd_ne (ne_of_none ht1 n2)]; exact ht1))
    have hp2 : SqT K (upd H1 p2 (.tup (cutV g.vs (some 3) none))) p2 (cutV g.vs (some 3) none) := .inl (.inl upd_same)
    generalize upd H1 p2 (.tup (cutV g.vs (some 3) none)) = H2 at s2 ht2 hp2
    refine ⟨t, p2, _, _, rfl, rfl, ht2, hp2, by show 3 + _ ≤ sizeLine; have := cutV_length g.vs (some 3) none; have h5 : g.vs.length ≤ 5 := vs_len g; rw [sizeLine_eq]; omega, fun z => by (exact nomatch z), fun _ hy => ?_, fun _ hy p3 n3 => ?_⟩
    · cases g with
      | keep b' a' => exact q _ _ s2 ⟨t, rfl, ht2⟩
      | lf b' a' k' c' => exact nomatch hy
      | cr b' a' k' => exact nomatch hy
    · cases g with
      | keep b' a' => exact absurd rfl hy
      | lf b' a' k' c' => exact q _ _ (s2.trans (same_upd n3)) ⟨p3, rfl, .inl (.inl upd_same)⟩
      | cr b' a' k' => exact q _ _ (s2.trans (same_upd n3)) ⟨p3, rfl, .inl (.inl upd_same)⟩
theorem ok_befKeep {f fS : Addr} {fd fdS : FuncData} {k : Nat} (F : Fun K "before_keep" "before_keep" sBefKeep f fd) (GS : FnOk P w K mg base CX0 k fS fdS ["j", "wanted"] (spSigns K)) (kS : PySem.W.keepIn K (.ref fS) = true) (bS : Binds K fdS ["j", "wanted"] []) (gS : mg "signs_after" = some (.ref fS)) :
    FnOk P w K mg base CX0 (k + 1) f fd ["first", "second"] (spBefKeep K) := by
  refine F.ok scBefKeep (fun vs H Q E h => ?_) (fun cdv A outer s H vs Q E hr h => ?_)
  · obtain ⟨x, y, f, b, a, rfl, _⟩ := h
    rfl
  · obtain ⟨_, y, f, b, a, rfl, ⟨p, rfl, hT⟩, hk, hy, q⟩ := h
    refine ⟨_, pss_cons (ps_if (pt_cmpR op_eq (pe_ix ix_tup (pv 0) pe_int (fun _ _ => rfl)) pe_str (nomark _)) (pss_one (ps_ret (pv 0))) pss_nil)
      (pss_one (ps_ret (pe_op op_catA (pe_slice sl_tup (pv 0) po_none (po_some pe_int)) (pe_tup (pa_cons (pe_call GS hr (by rfl) gS kS bS .nil pass0 (pa_cons (pe_ix ix_tup (pv 0) pe_int (fun _ _ => rfl)) (pa_cons (pv 1) pa_nil))) pa_nil))))), ?_⟩
    refine ⟨_, rfl, p, _, 0, _, rfl, rfl, hT, atI_nat (j := 0) f.vs0, rfl, _, rfl, ?_⟩
    cases f with
    | keep b a => cases hk
    | lf b' a' k' c =>
      refine iteF ⟨_, rfl, 4, rfl, p, _, rfl, hT, (show ¬ (HT.sIx 5 0 none = 0 ∧ HT.sIx 5 5 (some 4) = 5) by decide), fun p2 n2 => ?_⟩
      have s1 : Same H (upd H p2 (.tup [.str "lf", .int b', .int a', .int k'])) := same_upd n2
      have hp2 : upd H p2 (.tup [.str "lf", .int b', .int a', .int k']) p2 = some (.tup [.str "lf", .int b', .int a', .int k']) := upd_same
      refine ⟨_, rfl, p, _, 4, _, rfl, rfl, sameT s1 hT, atI_nat (j := 4) rfl, _, rfl, _, _, _, rfl, hy.same s1, by show 1 ≤ sizeLine; decide, fun p3 n3 => ?_⟩
      have s2 := s1.trans (same_upd (o := .tup [.int ((Fm.keep b a).after c)]) n3)
      refine ⟨p2, p3, [.str "lf", .int b', .int a', .int k'], [.int ((Fm.keep b a).after c)], rfl, rfl, .inl (.inl (by rw [upd_ne (ne_of_none hp2 n3)]; exact hp2)), .inl (.inl upd_same), by show 5 ≤ sizeLine; decide, (fun z => by cases z), (fun _ z => by cases z), fun _ _ p4 n4 => ?_⟩
      exact q _ _ (s2.trans (same_upd n4)) ⟨p4, rfl, .inl (.inl upd_same)⟩
    | cr b' a' k' => exact iteT ⟨_, rfl, q _ _ (Same.refl H) ⟨p, rfl, hT⟩⟩
end
end Lw
namespace Lw
open PySem PySem.Spec L2 Lx
theorem scBoth : FnScope ["first", "second", "k"] ["first", "second"] (defScope sBoth) := ⟨rfl, rfl, rfl, by decide +kernel, rfl, by decide +kernel, by decide +kernel⟩
def spBoth (K : PySem.W.Frag) : Sp := fun vs H Q _ => ∃ x y f g n, vs = [x, y] ∧ FmAt K H x f ∧ FmAt K H y g ∧ f.Ok n ∧ g.Ok n ∧ n ≤ 100000 ∧ ∀ v H', Same H H' → FmAt K H' v (f.both g) → Q v H'
section
variable {P : Program} {w : World} {K : PySem.W.Frag} {mg : Str → Option Value} {base : Heap} {aL aN aS : Addr}
theorem ok_both {f fA fB fO : Addr} {fd fdA fdB fdO : FuncData} {k : Nat} (F : Fun K "form_of_both" "form_of_both" sBoth f fd)
    (GA : FnOk P w K mg base CX0 k fA fdA ["first", "second"] (spAftKeep K)) (kA : PySem.W.keepIn K (.ref fA) = true) (bA : Binds K fdA ["first", "second"] []) (gA : mg "after_keep" = some (.ref fA))
    (GB : FnOk P w K mg base CX0 k fB fdB ["first", "second"] (spBefKeep K)) (kB : PySem.W.keepIn K (.ref fB) = true) (bB : Binds K fdB ["first", "second"] []) (gB : mg "before_keep" = some (.ref fB))
    (GO : FnOk P w K mg base CX0 k fO fdO ["first", "second"] (spOne K)) (kO : PySem.W.keepIn K (.ref fO) = true) (bO : Binds K fdO ["first", "second"] []) (gO : mg "units_of_one" = some (.ref fO)) :
    FnOk P w K mg base CX0 (k + 1) f fd ["first", "second"] (spBoth K) := by
  refine F.ok scBoth (fun vs H Q E h => ?_) (fun cdv A outer s H vs Q E hr h => ?_)
  · obtain ⟨x, y, f, g, n, rfl, _⟩ := h
    rfl
  · obtain ⟨_, _, f, g, n, rfl, ⟨p, rfl, hT⟩, ⟨r, rfl, hG⟩, of, og, hn, q⟩ := h
    refine ⟨_, pss_cons (ps_if (pt_cmpR op_eq (pe_ix ix_tup (pv 0) pe_int (fun _ _ => rfl)) pe_str (nomark _)) (pss_one (ps_ret (pe_call GA hr (by rfl) gA kA bA .nil pass0 (pa_cons (pv 0) (pa_cons (pv 1) pa_nil))))) pss_nil)
      (pss_cons (ps_if (pt_cmpR op_eq (pe_ix ix_tup (pv 1) pe_int (fun _ _ => rfl)) pe_str (nomark _)) (pss_one (ps_ret (pe_call GB hr (by rfl) gB kB bB .nil pass0 (pa_cons (pv 0) (pa_cons (pv 1) pa_nil))))) pss_nil)
      (pss_cons (ps_set (i := 2) scBoth.nd rfl (.inl rfl) (pe_op op_mulW (pe_op op_mulW (pe_ix ix_tup (pv 0) pe_int (fun _ _ => rfl)) (pe_call GO hr (by rfl) gO kO bO .nil pass0 (pa_cons (pv 0) (pa_cons (pv 1) pa_nil)))) (pe_ix ix_tup (pv 1) pe_int (fun _ _ => rfl))))
      (pss_one (ps_ret (pe_op op_catA (pe_tup (pa_cons (pe_ix ix_tup (pv 1) pe_int (fun _ _ => rfl)) (pa_cons (pe_ix ix_tup (pv 0) pe_int (fun _ _ => rfl)) (pa_cons (pe_ix ix_tup (pv 0) pe_int (fun _ _ => rfl)) (pa_cons (pv 2) pa_nil))))) (pe_slice sl_tup (pv 1) (po_some pe_int) po_none)))))), ?_⟩
    refine ⟨_, rfl, p, _, 0, _, rfl, rfl, hT, atI_nat (j := 0) f.vs0, rfl, _, rfl, ?_⟩
    by_cases hf : Fm.isKeep f = true
    · cases f with
      | keep b a => exact iteT ⟨_, rfl, _, rfl, _, _, b, a, g, rfl, ⟨p, rfl, hT⟩, ⟨r, rfl, hG⟩, q⟩
      | _ => cases hf
    · have hf' : Fm.isKeep f = false := by simpa using hf
      have hnm : decide (V.str f.nm = V.str "keep") = false := by
        cases f with
        | keep b a => cases hf'
        | _ => rfl
      rw [hnm]
      refine iteF ⟨_, rfl, r, _, 0, _, rfl, rfl, hG, atI_nat (j := 0) g.vs0, rfl, _, rfl, ?_⟩
      by_cases hg : Fm.isKeep g = true
      · cases g with
        | keep b a => exact iteT ⟨_, rfl, _, rfl, _, _, f, b, a, rfl, ⟨p, rfl, hT⟩, hf', ⟨r, rfl, hG⟩, q⟩
        | _ => cases hg
      · have hg' : Fm.isKeep g = false := by simpa using hg
        have hnm : decide (V.str g.nm = V.str "keep") = false := by
          cases g with
          | keep b a => cases hg'
          | _ => rfl
        rw [hnm]
        obtain ⟨kf, ekf⟩ := nk_k hf'
        obtain ⟨kg, ekg⟩ := nk_k hg'
        refine iteF ⟨_, rfl, p, _, 3, _, rfl, rfl, hT, atI_nat (j := 3) ekf, _, rfl, _, rfl, _, _, f, g, rfl, ⟨p, rfl, hT⟩, hf', ⟨r, rfl, hG⟩, ?_⟩
        have b1 := one_ok hf' of og
        have bf := nk_ok hf' of ekf
        have bg := nk_ok hg' og ekg
        refine ⟨_, _, rfl, rfl, wide_mul bf.2 b1.2 (nk_pos hf' of) (by omega) (by omega), _, rfl, r, _, 3, _, rfl, rfl, hG, atI_nat (j := 3) ekg, _, _, rfl, rfl, wide_mul (bf.2.mul b1.2) bg.2 (by omega) (nk_pos hg' og) (by omega), ?_⟩
        refine ⟨_, rfl, r, _, 0, _, rfl, rfl, hG, atI_nat (j := 0) g.vs0, _, rfl, p, _, 1, _, rfl, rfl, hT, atI_nat (j := 1) f.vs1, _, rfl, p, _, 2, _, rfl, rfl, hT, atI_nat (j := 2) f.vs2, _, rfl, by show 4 ≤ sizeLine; decide, fun t nt => ?_⟩
        have s1 : Same H (upd H t (.tup [.str g.nm, .int f.b, .int f.a, .int (kf * Fm.one f g * kg)])) := same_upd nt
        have ht1 : upd H t (.tup [.str g.nm, .int f.b, .int f.a, .int (kf * Fm.one f g * kg)]) t = some (.tup [.str g.nm, .int f.b, .int f.a, .int (kf * Fm.one f g * kg)]) := upd_same
        show tSl _ _ _ _ _ (upd H t (.tup [.str g.nm, .int f.b, .int f.a, .int (kf * Fm.one f g * kg)])) _
        generalize upd H t (.tup [.str g.nm, .int f.b, .int f.a, .int (kf * Fm.one f g * kg)]) = H1 at s1 ht1
        refine ⟨_, rfl, 4, rfl, r, g.vs, rfl, sameT s1 hG, wh4 g, fun p2 n2 => ?_⟩
        have s2 := s1.trans (same_upd (o := .tup (cutV g.vs (some 4) none)) n2)
        have ht2 : SqT K (upd H1 p2 (.tup (cutV g.vs (some 4) none))) t [.str g.nm, .int f.b, .int f.a, .int (kf * Fm.one f g * kg)] := .inl (.inl (by rw [upd_ne (ne_of_none ht1 n2)]; exact ht1))
        have hp2 : SqT K (upd H1 p2 (.tup (cutV g.vs (some 4) none))) p2 (cutV g.vs (some 4) none) := .inl (.inl upd_same)
        generalize upd H1 p2 (.tup (cutV g.vs (some 4) none)) = H2 at s2 ht2 hp2
        refine ⟨t, p2, _, _, rfl, rfl, ht2, hp2, by show 4 + _ ≤ sizeLine; have := cutV_length g.vs (some 4) none; have h5 : g.vs.length ≤ 5 := vs_len g; rw [sizeLine_eq]; omega, (fun z => by cases z), fun _ hy => ?_, fun _ hy p3 n3 => ?_⟩
        · cases g with
          | keep b' a' => cases hg'
          | lf b' a' k' c' => exact nomatch hy
          | cr b' a' k' =>
            cases ekg
            cases f with
            | keep b a => cases hf'
            | lf b a k c => cases ekf; exact q _ _ s2 ⟨t, rfl, ht2⟩
            | cr b a k => cases ekf; exact q _ _ s2 ⟨t, rfl, ht2⟩
        · cases g with
          | keep b' a' => cases hg'
          | lf b' a' k' c' =>
            cases ekg
            cases f with
            | keep b a => cases hf'
            | lf b a k c => cases ekf; exact q _ _ (s2.trans (same_upd n3)) ⟨p3, rfl, .inl (.inl upd_same)⟩
            | cr b a k => cases ekf; exact q _ _ (s2.trans (same_upd n3)) ⟨p3, rfl, .inl (.inl upd_same)⟩
          | cr b' a' k' => exact absurd rfl hy
end
end Lw
namespace Lw
open PySem PySem.Spec L2 Lx
theorem scFoc : FnScope ["chain", "wanted", "letter"] ["chain"] (defScope sFoc) := ⟨rfl, rfl, rfl, by decide +kernel, rfl, by decide +kernel, by decide +kernel⟩
def spFoc (K : PySem.W.Frag) : Sp := fun vs H Q _ => ∃ x, vs = [.str x] ∧ ChOk x ∧ x.cps.size ≤ 7000 ∧ ∀ v H', Same H H' → FmAt K H' v (formOf x) → FLe x.cps.size (formOf x) → Q v H'
section
variable {P : Program} {w : World} {K : PySem.W.Frag} {mg : Str → Option Value} {base : Heap} {aL aN aS : Addr}
theorem ok_foc {f fB : Addr} {fd fdB : FuncData} {k : Nat} (F : Fun K "form_of_chain" "form_of_chain" sFoc f fd) (T : StepT K w mg aN aS)
    (GB : FnOk P w K mg base CX0 k fB fdB ["first", "second"] (spBoth K)) (kB : PySem.W.keepIn K (.ref fB) = true) (bB : Binds K fdB ["first", "second"] []) (gB : mg "form_of_both" = some (.ref fB)) :
    FnOk P w K mg base CX0 (k + 1) f fd ["chain"] (spFoc K) := by
  refine F.ok scFoc (fun vs H Q E h => ?_) (fun cdv A outer s H vs Q E hr h => ?_)
  · obtain ⟨x, rfl, _⟩ := h
    rfl
  · obtain ⟨x, rfl, hx, hsz, q⟩ := h
    refine ⟨_, pss_cons (ps_set (i := 1) scFoc.nd rfl (.inl rfl) (pe_glob (v := .ref aN) rfl T.gN rfl))
      (pss_cons (ps_for PassesOwn.never rfl (pi_str (pv 0)) (pg_name (i := 2) scFoc.nd rfl (.inl rfl))
        (pss_one (ps_set (i := 1) scFoc.nd rfl (.inl rfl) (pe_call GB hr (by rfl) gB kB bB .nil pass0 (pa_cons (pv 1) (pa_cons (pe_ix ix_kdict (pe_glob (v := .ref aS) rfl T.gS rfl) (pv 2) (fun _ _ => rfl)) pa_nil))))))
      (pss_one (ps_ret (pv 1)))), ?_⟩
    refine ⟨_, rfl, x, rfl, ?_⟩
    refine for_it walk_str (fun i σ H' => Same H H' ∧ ∃ v y2, σ = [some (.str x), some v, y2] ∧ FmAt K H' v (formL (x.cps.toList.take i)) ∧ FLe i (formL (x.cps.toList.take i)))
      ⟨Same.refl H, .ref aN, none, rfl, T.n H, ⟨by decide, by decide, by decide, by decide⟩⟩ (fun _ _ _ _ _ => trivial) ?_ ?_
    · rintro i u σ H1 H2 hi ⟨sm, v, y2, rfl, hv, hl⟩ ⟨rfl, c, hc, rfl⟩
      have hcm : c ∈ x.cps.toList := by rw [Array.mem_toList_iff]; exact Array.mem_of_getElem? hc
      obtain ⟨u, hd, hu⟩ := T.s c (hx c hcm)
      have hs : FLe (i + 1) (stepF c) := by
        have := FLe.step (L := i) (by omega) (hx c hcm) (f := nothing) ⟨by decide, by omega, by decide, by omega⟩
        rcases step_cases (hx c hcm) with e | e | e | e <;> rw [e] at this ⊢ <;> exact this
      have htk : x.cps.toList.take (i + 1) = x.cps.toList.take i ++ [c] := by
        rw [List.take_succ]
        have : x.cps.toList[i]? = some c := by rw [Array.getElem?_toList]; exact hc
        rw [this]
        rfl
      refine ⟨_, rfl, _, rfl, aS, _, u, rfl, rfl, hd, ?_⟩
      refine ⟨_, _, formL (x.cps.toList.take i), stepF c, 13 * (i + 1) + 1, rfl, hv, hu _, hl.ok.mono (by omega), hs.ok, by omega, fun v2 H3 s3 hv2 => ?_⟩
      refine ⟨sm.trans s3, v2, _, rfl, ?_, ?_⟩
      · rw [htk]
        unfold formL
        rw [List.foldl_append]
        exact hv2
      · rw [htk]
        unfold formL
        rw [List.foldl_append]
        exact hl.step (by omega) (hx c hcm)
    · rintro σ H1 ⟨sm, v, y2, rfl, hv, hl⟩
      have e : x.cps.toList.take x.cps.size = x.cps.toList := List.take_of_length_le (by simp)
      rw [e] at hv hl
      exact ⟨_, rfl, q _ _ sm hv hl⟩
end
end Lw
namespace Lw
open PySem PySem.Spec L2 Lx
theorem scChkChain : FnScope ["chain", "index", "letter"] ["chain"] (defScope sChkChain) := ⟨rfl, rfl, rfl, by decide +kernel, rfl, by decide +kernel, by decide +kernel⟩
def spChkChain : Sp := fun vs H Q _ => ∃ x, vs = [.str x] ∧ ChOk x ∧ ∀ H', Same H H' → Q .non H'
section
variable {P : Program} {w : World} {K : PySem.W.Frag} {mg : Str → Option Value} {base : Heap} {aL aN aS : Addr}
theorem ok_chkChain {f : Addr} {fd : FuncData} {k : Nat} {tS : Tok} (F : Fun K "check_chain" "check_chain" sChkChain f fd) (mE : mg "enumerate" = none) (gS : mg "STEPS" = some (.str steps tS)) : FnOk P w K mg base CX0 (k + 1) f fd ["chain"] spChkChain := by
  refine F.ok scChkChain (fun vs H Q E h => ?_) (fun cdv A outer s H vs Q E hr h => ?_)
  · obtain ⟨x, rfl, _⟩ := h
    rfl
  · obtain ⟨x, rfl, hx, q⟩ := h
    refine ⟨_, pss_one (ps_for PassesOwn.never rfl (pi_enumS rfl mE (pa_cons (pv 0) pa_nil)) (pg_tup (by rfl) (pgs_cons (pg_name (i := 1) scChkChain.nd rfl (.inl rfl)) (pgs_cons (pg_name (i := 2) scChkChain.nd rfl (.inl rfl)) pgs_nil)))
        (pss_one (ps_if (pt_cmpR op_notIn_sign (pv 2) (pe_glob (v := .str steps) rfl gS ⟨_, rfl⟩) rfl) (pss_one ps_never) pss_nil))), ?_⟩
    refine ⟨_, rfl, x, rfl, ?_⟩
    refine for_it walk_enumS (fun i σ H' => Same H H' ∧ ∃ y1 y2, σ = [some (.str x), y1, y2]) ⟨Same.refl H, none, none, rfl⟩ (fun _ _ _ _ _ => trivial) ?_ ?_
    · rintro i v σ H1 H2 hi ⟨sm, y1, y2, rfl⟩ ⟨T, u1, u2, rfl, nT, rfl, h1, h2⟩
      cases Option.some.inj h1
      replace h2 : (x.cps[i]?).map (fun c => V.str ⟨#[c]⟩) = some u2 := h2
      cases e : x.cps[i]? with
      | none => rw [e] at h2; cases h2
      | some c =>
        rw [e] at h2
        cases Option.some.inj h2
        have hc : c ∈ steps.cps.toList := hx c (by rw [Array.mem_toList_iff]; exact Array.mem_of_getElem? e)
        have s2 := sm.trans (same_upd (o := .tup [.int (i : Nat), .str ⟨#[c]⟩]) nT)
        refine ⟨T, _, rfl, .inl (.inl upd_same), rfl, _, _, rfl, _, _, rfl, rfl, ?_⟩
        refine ⟨_, rfl, c, steps, rfl, rfl, _, rfl, ?_⟩
        rw [decide_eq_true hc]
        exact iteF ⟨s2, _, _, rfl⟩
    · rintro σ H1 ⟨sm, y1, y2, rfl⟩
      exact q _ sm
end
end Lw
namespace Lw
open PySem PySem.Spec L2 Lx
theorem scDI : FnScope ["self", "name"] ["self", "name"] (defScope sDepot___init__) := ⟨rfl, rfl, rfl, by decide +kernel, rfl, by decide +kernel, by decide +kernel⟩
theorem scDC : FnScope ["self", "source", "name", "chain", "before"] ["self", "source", "name", "chain"] (defScope sDepot_copy) := ⟨rfl, rfl, rfl, by decide +kernel, rfl, by decide +kernel, by decide +kernel⟩
theorem scDF : FnScope ["self", "name"] ["self", "name"] (defScope sDepot_form_of) := ⟨rfl, rfl, rfl, by decide +kernel, rfl, by decide +kernel, by decide +kernel⟩
structure DTxt (K : PySem.W.Frag) (mg : Str → Option Value) (C : Addr) : Prop where
  cl : Cls K C
  nF : NoAttr K C "_forms"
  mgC : mg "Depot" = some (.ref C)
def spDInit (K : PySem.W.Frag) (C : Addr) : Sp := fun vs H Q _ => ∃ (p dx : Addr) (n : Str), vs = [.ref p, .str n] ∧ H p = some (.ins C dx []) ∧ ∀ (d : Addr) (H' : Hp), H d = none → DepAt K C H' p d [(n, "")] → (∀ b o, H b = some o → b ≠ p → H' b = some o) → Q .non H'
def spDForm (K : PySem.W.Frag) (C : Addr) : Sp := fun vs H Q _ => ∃ (p d : Addr) (zs : List (Str × Str)) (n z : Str), vs = [.ref p, .str n] ∧ DepAt K C H p d zs ∧ zs.lookup n = some z ∧ ∀ v, FmAt K H v (formOf z) → Q v H
def spDCopy (K : PySem.W.Frag) (C : Addr) : Sp := fun vs H Q _ => ∃ (p d : Addr) (zs : List (Str × Str)) (s n x z : Str), vs = [.ref p, .str s, .str n, .str x] ∧ DepAt K C H p d zs ∧ zs.length < 10000 ∧ zs.lookup s = some z ∧ ChOk z ∧ ChOk x ∧ z.cps.size + x.cps.size ≤ 7000 ∧
  ∀ H', DepAt K C H' p d (putZ zs n (z ++ x)) → Kd d H H' → Q .non H'
theorem formOf_nil : formOf "" = nothing := rfl
section
variable {P : Program} {w : World} {K : PySem.W.Frag} {mg : Str → Option Value} {base : Heap}
theorem ok_dinit {f C aN : Addr} {fd : FuncData} {k : Nat} (F : Fun K "__init__" "Depot.__init__" sDepot___init__ f fd) (T : DTxt K mg C) (gN : mg "NOTHING" = some (.ref aN)) (tN : ∀ H : Hp, FmAt K H (.ref aN) nothing) : FnOk P w K mg base CX0 (k + 1) f fd ["self", "name"] (spDInit K C) := by
  refine F.ok scDI (fun vs H Q E h => ?_) (fun cdv A outer s H vs Q E hr h => ?_)
  · obtain ⟨p, dx, n, rfl, _⟩ := h
    rfl
  · obtain ⟨p, dx, n, rfl, hp, q⟩ := h
    refine ⟨_, pss_one (ps_fld (pv 0) (pe_disp (pps_cons (pv 1) (pe_glob (v := .ref aN) rfl gN rfl) pps_nil) (by rfl) (by rfl) (fun z => by cases z) (by decide)) rfl), ?_⟩
    intro d hd
    have npd : p ≠ d := ne_of_none hp hd
    refine ⟨_, rfl, upd_same, [(.inr n, .ref aN)], rfl, (show 1 ≤ 15 by decide), ?_⟩
    refine ⟨_, rfl, p, C, dx, [], rfl, by rw [upd_ne npd, upd_ne npd]; exact hp, T.cl, T.nF, by show 0 < 1000; decide, ?_⟩
    refine q d _ hd ⟨⟨dx, upd_same⟩, ⟨[(.inr n, .ref aN)], by rw [upd_ne npd.symm, upd_same]; rfl, .cons (tN _) .nil⟩, by unfold NdZ; simp⟩ fun b o e hb => ?_
    rw [upd_ne hb, upd_ne (ne_of_none e hd), upd_ne (ne_of_none e hd)]
    exact e
theorem ok_dform {f C : Addr} {fd : FuncData} {k : Nat} (F : Fun K "form_of" "Depot.form_of" sDepot_form_of f fd) (T : DTxt K mg C) : FnOk P w K mg base CX0 (k + 1) f fd ["self", "name"] (spDForm K C) := by
  refine F.ok scDF (fun vs H Q E h => ?_) (fun cdv A outer s H vs Q E hr h => ?_)
  · obtain ⟨p, d, zs, n, z, rfl, _⟩ := h
    rfl
  · obtain ⟨p, d, zs, n, z, rfl, ⟨⟨dx, h1⟩, ⟨kvs, h2, h3⟩, h4⟩, hz, q⟩ := h
    have hu := hu_of hr
    obtain ⟨v, g1, g2⟩ := h3.get hz
    refine ⟨_, pss_cons (ps_if (pt_cmp (pc_dnotin hu (pv 1) (pe_fld (pv 0) rfl))) (pss_one ps_never) pss_nil) (pss_one (ps_ret (pe_dget hu (pe_fld (pv 0) rfl) (pv 1) (fun _ _ => rfl)))), ?_⟩
    refine ⟨_, rfl, _, rfl, p, C, dx, _, _, rfl, h1, T.cl, T.nF, by rfl, d, _, rfl, DGet.k (k := Sum.inr n) h2, _, rfl, ?_⟩
    rw [g1]
    refine iteF ?_
    refine ⟨_, rfl, p, C, dx, _, _, rfl, h1, T.cl, T.nF, by rfl, _, rfl, d, v, rfl, ?_, q v g2⟩
    rw [← g1]
    exact DGet.k (k := Sum.inr n) h2
theorem ok_dcopy {f C fF aC aB aO : Addr} {fd dF dC dB dO : FuncData} {k : Nat} (F : Fun K "copy" "Depot.copy" sDepot_copy f fd) (T : DTxt K mg C)
    (mF : Meth K C "form_of" fF) (GF : FnOk P w K mg base CX0 k fF dF ["self", "name"] (spDForm K C)) (bF : Binds K dF ["self", "name"] [])
    (cC : Cl P w K mg base k "check_chain" ["chain"] spChkChain aC dC)
    (cB : Cl P w K mg base k "form_of_both" ["first", "second"] (spBoth K) aB dB)
    (cO : Cl P w K mg base k "form_of_chain" ["chain"] (spFoc K) aO dO) : FnOk P w K mg base CX0 (k + 1) f fd ["self", "source", "name", "chain"] (spDCopy K C) := by
  refine F.ok scDC (fun vs H Q E h => ?_) (fun cdv A outer s H vs Q E hr h => ?_)
  · obtain ⟨p, d, zs, sr, n, x, z, rfl, _⟩ := h
    rfl
  · obtain ⟨p, d, zs, sr, n, x, z, rfl, hD, hzl, hz, hzo, hxo, hl, q⟩ := h
    have hu := hu_of hr
    obtain ⟨⟨dx, h1⟩, ⟨kvs, h2, h3⟩, h4⟩ := id hD
    refine ⟨_, pss_cons (ps_set (i := 4) scDC.nd rfl (.inl rfl) (pe_meth (pv 0) T.cl mF GF hr bF .nil pass0 (pa_cons (pv 1) pa_nil)))
      (pss_cons (ps_expr (pe_call cC.G hr (by rfl) cC.g cC.kp cC.b .nil pass0 (pa_cons (pv 3) pa_nil)))
      (pss_one (ps_dput hu (pe_fld (pv 0) rfl) (pv 2) (pe_call cB.G hr (by rfl) cB.g cB.kp cB.b .nil pass0 (pa_cons (pv 4) (pa_cons (pe_call cO.G hr (by rfl) cO.g cO.kp cO.b .nil pass0 (pa_cons (pv 3) pa_nil)) pa_nil))) rfl))), ?_⟩
    refine ⟨_, rfl, p, dx, _, rfl, h1, by rfl, _, rfl, p, d, zs, sr, z, rfl, hD, hz, fun v hv => ?_⟩
    refine ⟨_, rfl, x, rfl, hxo, fun H1 s1 => ?_⟩
    refine ⟨_, rfl, _, rfl, x, rfl, hxo, by omega, fun v2 H2 s2 hv2 hle2 => ?_⟩
    have s12 := s1.trans s2
    refine ⟨v, v2, formOf z, formOf x, 91001, rfl, hv.same s12, hv2, formOf_ok hzo (by omega), formOf_ok hxo (by omega), by decide, fun v3 H3 s3 hv3 => ?_⟩
    have sA := s12.trans s3
    have h13 := sA _ _ h1
    have h23 := sA _ _ h2
    refine ⟨_, rfl, p, C, dx, _, _, rfl, h13, T.cl, T.nF, by rfl, _, rfl, d, _, rfl, DPut.k (k := Sum.inr n) h23 (by rw [sizeLine_eq]; have := h3.len; omega), ?_⟩
    rw [← formOf_app hzo hxo hl] at hv3
    have kd : Kd d H3 (upd H3 d (.dK (putK kvs (.inr n) v3))) := fun b o hb e => by rw [upd_ne hb]; exact e
    have npd : p ≠ d := ne_of h13 h23 (by intro z; cases z)
    exact q _ ⟨⟨dx, by rw [upd_ne npd]; exact h13⟩, ⟨_, upd_same, (Ents.put hv3 (h3.same fun v f hv => hv.same sA) h4).same fun v f hv => FmAt.kd h23 kd hv⟩, putZ_nd h4⟩ ((Kd.of sA).trans kd)
end
end Lw
namespace Lw
open PySem PySem.Spec L2 Lx
theorem scIsForm : FnScope ["wanted"] ["wanted"] (defScope sIsForm) := ⟨rfl, rfl, rfl, by decide +kernel, rfl, by decide +kernel, by decide +kernel⟩
theorem scChkForm : FnScope ["wanted"] ["wanted"] (defScope sChkForm) := ⟨rfl, rfl, rfl, by decide +kernel, rfl, by decide +kernel, by decide +kernel⟩
def spIsForm (K : PySem.W.Frag) : Sp := fun vs H Q _ => ∃ x f n, vs = [x] ∧ FmAt K H x f ∧ f.Ok n ∧ ∀ H', Same H H' → Q (.bl true) H'
def spChkForm (K : PySem.W.Frag) : Sp := fun vs H Q _ => ∃ x f n, vs = [x] ∧ FmAt K H x f ∧ f.Ok n ∧ ∀ H', Same H H' → Q .non H'
section
variable {P : Program} {w : World} {K : PySem.W.Frag} {mg : Str → Option Value} {base : Heap} {aL aN aS : Addr}
theorem ok_isForm {f : Addr} {fd : FuncData} {k : Nat} (F : Fun K "is_form" "is_form" sIsForm f fd) (T : LenT K w mg aL) (mL : mg "len" = none) (mM : mg "min" = none) : FnOk P w K mg base CX0 (k + 1) f fd ["wanted"] (spIsForm K) := by
  refine F.ok scIsForm (fun vs H Q E h => ?_) (fun cdv A outer s H vs Q E hr h => ?_)
  · obtain ⟨x, f, n, rfl, _⟩ := h
    rfl
  · obtain ⟨_, f, n, rfl, ⟨p, rfl, hT⟩, ho, q⟩ := h
    refine ⟨_, pss_cons (ps_if (PW.pt (pw_or (pt_not (pt_truth (pv 0) (fun _ => rfl))) (pw_or1 (pt_cmpR op_ne (pe_kget (pe_glob (v := .ref aL) rfl T.g rfl) (pe_ix ix_tup (pv 0) pe_int (fun _ _ => rfl)) ⟨rfl, rfl, rfl, rfl⟩) (pe_callB call_len_seq (by rfl) mL PySem.boot_len (pa_cons (pv 0) pa_nil)) (nomark _))))) (pss_one (ps_ret pe_bl)) pss_nil)
      (pss_cons (ps_if (pt_cmpR op_lt (pe_callB (call_minT rfl) (by rfl) mM (by decide +kernel) (pa_cons (pe_slice sl_tup (pv 0) (po_some pe_int) po_none) pa_nil)) pe_int (nomark _)) (pss_one (ps_ret pe_bl)) pss_nil)
      (pss_one (ps_ret (pe_or (pe_cmpR op_eq (pe_ix ix_tup (pv 0) pe_int (fun _ _ => rfl)) pe_str (nomark _)) (pe_one (pe_cmpR op_gt (pe_ix ix_tup (pv 0) pe_int (fun _ _ => rfl)) pe_int (nomark _))))))), ?_⟩
    obtain ⟨es, dn, D⟩ := T.d
    obtain ⟨t, ht⟩ := T.at f
    have hne : f.vs.isEmpty = false := by cases f <;> rfl
    refine ⟨_, rfl, true, .inr (.inl ⟨f.vs, hT, by rw [hne]; rfl⟩), iteF ?_⟩
    refine ⟨aL, es, dn, rfl, D, _, rfl, p, _, 0, _, rfl, rfl, hT, atI_nat (j := 0) f.vs0, f.nm, _, .int f.vs.length, rfl, ht, ⟨t, rfl⟩, ?_⟩
    refine ⟨_, rfl, p, f.vs, rfl, .inr hT, ?_⟩
    refine ⟨rfl, _, rfl, ?_⟩
    rw [decide_eq_true rfl]
    refine iteF ?_
    refine ⟨_, rfl, 1, rfl, p, f.vs, rfl, hT, wh f, fun p2 n2 => ?_⟩
    rw [cut1]
    have s2 := same_upd (o := .tup (f.nums.map V.int)) n2
    refine ⟨p2, f.nums, rfl, .inl (.inl upd_same), np f, fun m hm _ => ?_⟩
    refine ⟨_, _, rfl, rfl, _, rfl, ?_⟩
    rw [decide_eq_false (by have := nums0 ho m hm; omega : ¬ m < 0)]
    refine iteF ?_
    refine ⟨_, rfl, p, _, 0, _, rfl, rfl, sameT s2 hT, atI_nat (j := 0) f.vs0, rfl, _, rfl, ?_⟩
    cases f with
    | keep b a => exact iteT (q _ s2)
    | lf b a k c =>
      refine iteF ⟨_, rfl, p, _, 3, .int k, rfl, rfl, sameT s2 hT, atI_nat (j := 3) rfl, _, _, rfl, rfl, ?_⟩
      show Q (.bl (decide (0 < k))) _
      rw [decide_eq_true (by have := ho.2.2.1; omega : 0 < k)]
      exact q _ s2
    | cr b a k =>
      refine iteF ⟨_, rfl, p, _, 3, .int k, rfl, rfl, sameT s2 hT, atI_nat (j := 3) rfl, _, _, rfl, rfl, ?_⟩
      show Q (.bl (decide (0 < k))) _
      rw [decide_eq_true (by have := ho.2.2.1; omega : 0 < k)]
      exact q _ s2
theorem ok_chkForm {f fI : Addr} {fd fdI : FuncData} {k : Nat} (F : Fun K "check_form" "check_form" sChkForm f fd) (GI : FnOk P w K mg base CX0 k fI fdI ["wanted"] (spIsForm K)) (kI : PySem.W.keepIn K (.ref fI) = true) (bI : Binds K fdI ["wanted"] []) (gI : mg "is_form" = some (.ref fI)) :
    FnOk P w K mg base CX0 (k + 1) f fd ["wanted"] (spChkForm K) := by
  refine F.ok scChkForm (fun vs H Q E h => ?_) (fun cdv A outer s H vs Q E hr h => ?_)
  · obtain ⟨x, f, n, rfl, _⟩ := h
    rfl
  · obtain ⟨x, f, n, rfl, hf, ho, q⟩ := h
    refine ⟨_, pss_one (ps_if (pt_not (pt_val (pe_call GI hr (by rfl) gI kI bI .nil pass0 (pa_cons (pv 0) pa_nil)))) (pss_one ps_never) pss_nil), ?_⟩
    refine ⟨_, rfl, x, f, n, rfl, hf, ho, fun H' sm => ?_⟩
    exact ⟨_, rfl, iteF (q _ sm)⟩
end
end Lw
namespace Lw
open PySem PySem.Spec L2 Lx
theorem scNotNeg : FnScope ["number"] ["number"] (defScope sNotNeg) := ⟨rfl, rfl, rfl, by decide +kernel, rfl, by decide +kernel, by decide +kernel⟩
theorem scJoined : FnScope ["first", "second"] ["first", "second"] (defScope sJoined) := ⟨rfl, rfl, rfl, by decide +kernel, rfl, by decide +kernel, by decide +kernel⟩
theorem scPowered : FnScope ["wanted", "times", "result", "power"] ["wanted", "times"] (defScope sPowered) := ⟨rfl, rfl, rfl, by decide +kernel, rfl, by decide +kernel, by decide +kernel⟩
def spNotNeg : Sp := fun vs H Q _ => ∃ i : Int, vs = [.int i] ∧ 0 ≤ i ∧ Q .non H
def spJoined (K : PySem.W.Frag) : Sp := fun vs H Q _ => ∃ x y f g n, vs = [x, y] ∧ FmAt K H x f ∧ FmAt K H y g ∧ f.Ok n ∧ g.Ok n ∧ n ≤ 100000 ∧ ∀ v H', Same H H' → FmAt K H' v (f.both g) → Q v H'
def spPowered (K : PySem.W.Frag) : Sp := fun vs H Q _ => ∃ x f, ∃ n m : Nat, vs = [x, .int (n : Int)] ∧ FmAt K H x f ∧ f.Ok m ∧ 0 < m ∧ m ≤ 440 ∧ Often f n ∧ ∀ v H', Same H H' → FmAt K H' v (fp f n) → Q v H'
section
variable {P : Program} {w : World} {K : PySem.W.Frag} {mg : Str → Option Value} {base : Heap} {aN : Addr}
theorem ok_notneg {f : Addr} {fd : FuncData} {k : Nat} (F : Fun K "check_not_negative" "check_not_negative" sNotNeg f fd) : FnOk P w K mg base CX0 (k + 1) f fd ["number"] spNotNeg := by
  refine F.ok scNotNeg (fun vs H Q E h => ?_) (fun cdv A outer s H vs Q E hr h => ?_)
  · obtain ⟨i, rfl, _⟩ := h
    rfl
  · obtain ⟨i, rfl, hi, q⟩ := h
    refine ⟨_, (pss_one (ps_if (pt_cmpR op_lt (pv 0) pe_int (nomark _))
          (pss_one ps_never) pss_nil)), ?_⟩
    refine ⟨_, rfl, _, _, rfl, rfl, _, rfl, ?_⟩
    rw [decide_eq_false (by omega : ¬ i < 0)]
    exact iteF q
theorem ok_joined {f aF aB : Addr} {fd dF dB : FuncData} {k : Nat} (F : Fun K "joined" "joined" sJoined f fd)
    (cF : Cl P w K mg base k "check_form" ["wanted"] (spChkForm K) aF dF)
    (cB : Cl P w K mg base k "form_of_both" ["first", "second"] (spBoth K) aB dB) : FnOk P w K mg base CX0 (k + 1) f fd ["first", "second"] (spJoined K) := by
  refine F.ok scJoined (fun vs H Q E h => ?_) (fun cdv A outer s H vs Q E hr h => ?_)
  · obtain ⟨x, y, f, g, n, rfl, _⟩ := h
    rfl
  · obtain ⟨x, y, f, g, n, rfl, hx, hy, hf, hg, hn, q⟩ := h
    refine ⟨_, (pss_cons (ps_expr (pe_call cF.G hr (by rfl) cF.g cF.kp cF.b .nil pass0 (pa_cons (pv 0) pa_nil)))
      (pss_cons (ps_expr (pe_call cF.G hr (by rfl) cF.g cF.kp cF.b .nil pass0 (pa_cons (pv 1) pa_nil)))
      (pss_one (ps_ret (pe_call cB.G hr (by rfl) cB.g cB.kp cB.b .nil pass0 (pa_cons (pv 0) (pa_cons (pv 1) pa_nil))))))), ?_⟩
    refine ⟨_, rfl, x, f, n, rfl, hx, hf, fun H1 s1 => ⟨_, rfl, y, g, n, rfl, hy.same s1, hg, fun H2 s2 => ?_⟩⟩
    exact ⟨_, rfl, _, rfl, x, y, f, g, n, rfl, (hx.same s1).same s2, (hy.same s1).same s2, hf, hg, hn, fun v H3 s3 hv => q v H3 ((s1.trans s2).trans s3) hv⟩
theorem ok_powered {f aF aM aB : Addr} {fd dF dM dB : FuncData} {k : Nat} (F : Fun K "powered" "powered" sPowered f fd) (gN : mg "NOTHING" = some (.ref aN)) (tN : ∀ H : Hp, FmAt K H (.ref aN) nothing)
    (cF : Cl P w K mg base k "check_form" ["wanted"] (spChkForm K) aF dF)
    (cN : Cl P w K mg base k "check_not_negative" ["number"] spNotNeg aM dM)
    (cB : Cl P w K mg base k "form_of_both" ["first", "second"] (spBoth K) aB dB) : FnOk P w K mg base CX0 (k + 1) f fd ["wanted", "times"] (spPowered K) := by
  refine F.ok scPowered (fun vs H Q E h => ?_) (fun cdv A outer s H vs Q E hr h => ?_)
  · obtain ⟨x, f, n, m, rfl, _⟩ := h
    rfl
  · obtain ⟨x, f, n, m, rfl, hx, hf, hm0, hm, ho, q⟩ := h
    refine ⟨_, (pss_cons (ps_expr (pe_call cF.G hr (by rfl) cF.g cF.kp cF.b .nil pass0 (pa_cons (pv 0) pa_nil)))
      (pss_cons (ps_expr (pe_call cN.G hr (by rfl) cN.g cN.kp cN.b .nil pass0 (pa_cons (pv 1) pa_nil)))
      (pss_cons (ps_set (i := 2) scPowered.nd rfl (.inl rfl) (pe_glob (v := .ref aN) rfl gN rfl))
      (pss_cons (ps_set (i := 3) scPowered.nd rfl (.inl rfl) (pv 0))
      (pss_cons (ps_while PassesOwn.never (pt_cmpR op_gt (pv 1) pe_int (nomark _))
          (pss_cons (ps_if (pt_cmpR op_eq (pe_op op_modN (pv 1) pe_int) pe_int (nomark _))
              (pss_one (ps_set (i := 2) scPowered.nd rfl (.inl rfl) (pe_call cB.G hr (by rfl) cB.g cB.kp cB.b .nil pass0 (pa_cons (pv 2) (pa_cons (pv 3) pa_nil))))) pss_nil)
          (pss_cons (ps_aug (i := 1) scPowered.nd rfl (.inl rfl) pe_int iop_fdiv)
          (pss_one (ps_if (pt_cmpR op_gt (pv 1) pe_int (nomark _))
              (pss_one (ps_set (i := 3) scPowered.nd rfl (.inl rfl) (pe_call cB.G hr (by rfl) cB.g cB.kp cB.b .nil pass0 (pa_cons (pv 3) (pa_cons (pv 3) pa_nil))))) pss_nil)))))
      (pss_one (ps_ret (pv 2)))))))), ?_⟩
    refine ⟨_, rfl, x, f, m, rfl, hx, hf, fun H1 s1 => ?_⟩
    refine ⟨_, rfl, (n : Int), rfl, by omega, ?_⟩
    refine ⟨_, rfl, ?_⟩
    refine while_fin (fun σ H' => ∃ t r p, σ = [some x, some t, some r, some p] ∧ Same H H' ∧ FmAt K H' r (fp f n)) (fun R hR => ?_) (fun σ H' hF => ?_)
    · refine ⟨fun mm σ H' => ∃ (i j : Nat) (r p : V), σ = [some x, some (.int (mm : Int)), some r, some p] ∧ Same H H' ∧ FmAt K H' r (fp f i) ∧ FmAt K H' p (fp f j) ∧ i + j * mm = n ∧ (0 < mm → j ≤ n), ⟨n, 0, 1, _, _, rfl, s1, tN H1, ?_, by omega, fun h => h⟩, ?_⟩
      · rw [fp_one hf]
        exact hx.same s1
      · rintro t σ H2 ⟨i, j, r, p, rfl, sm, hr2, hp2, hsum, hj⟩
        refine ⟨_, rfl, _, _, rfl, rfl, _, rfl, ?_⟩
        cases t with
        | zero =>
          refine iteF (hR _ _ ⟨_, r, p, rfl, sm, ?_⟩)
          have : i = n := by omega
          rw [← this]
          exact hr2
        | succ t =>
          rw [decide_eq_true (show ((t + 1 : Nat) : Int) > 0 by omega)]
          have hj' := hj (Nat.succ_pos t)
          have hi' : i ≤ n := by
            have := Nat.zero_le (j * (t + 1))
            omega
          refine iteT ⟨fun σ' H' => ∃ (i' j' : Nat) (r' p' : V), σ' = [some x, some (.int (((t + 1) / 2 : Nat) : Int)), some r', some p'] ∧ Same H H' ∧ FmAt K H' r' (fp f i') ∧ FmAt K H' p' (fp f j') ∧ i' + j' * ((t + 1) / 2) = n ∧ (0 < (t + 1) / 2 → j' ≤ n), fun σ' H' h => ⟨(t + 1) / 2, by omega, h⟩, ?_⟩
          have hdiv : ((t + 1 : Nat) : Int) / 2 = (((t + 1) / 2 : Nat) : Int) := by omega
          have hmod : ((t + 1 : Nat) : Int).fmod 2 = (((t + 1) % 2 : Nat) : Int) := by
            rw [Int.fmod_eq_emod_of_nonneg _ (by decide)]
            omega
          refine if_fin (fun σ H' => ∃ (i' : Nat) (r' : V), σ = [some x, some (.int ((t + 1 : Nat) : Int)), some r', some p] ∧ Same H H' ∧ FmAt K H' r' (fp f i') ∧ FmAt K H' p (fp f j) ∧ i' + 2 * j * ((t + 1) / 2) = n ∧ i' ≤ n) (fun R2 hR2 => ?_) (fun σ H3 hF => ?_)
          · refine ⟨_, rfl, _, _, rfl, rfl, (show (2 : Int) ≠ 0 by decide), rfl, _, rfl, ?_⟩
            show if decide (V.int (((t + 1 : Nat) : Int).fmod 2) = V.int 1) = true then _ else _
            rw [hmod]
            by_cases odd : (t + 1) % 2 = 1
            · rw [decide_eq_true (show V.int (((t + 1) % 2 : Nat) : Int) = V.int 1 by rw [odd]; rfl)]
              have hsum2 : (i + j) + 2 * j * ((t + 1) / 2) = n := by
                have e : t + 1 = 2 * ((t + 1) / 2) + 1 := by omega
                have e2 : j * (t + 1) = 2 * j * ((t + 1) / 2) + j := by
                  conv => lhs; rw [e]
                  rw [Nat.mul_add, Nat.mul_one, ← Nat.mul_assoc, Nat.mul_comm j 2]
                omega
              have hle : i + j ≤ n := by
                have := Nat.zero_le (2 * j * ((t + 1) / 2))
                omega
              refine iteT ⟨_, rfl, _, rfl, r, p, fp f i, fp f j, 90000, rfl, hr2, hp2, fp_sm hf hm0 hm (ho.le hi'), fp_sm hf hm0 hm (ho.le hj'), by decide, fun v H3 s3 hv => ?_⟩
              rw [fp_add hf] at hv
              exact hR2 _ _ ⟨i + j, v, rfl, sm.trans s3, hv, hp2.same s3, hsum2, hle⟩
            · rw [decide_eq_false (fun z => odd (by have := V.int.inj z; omega))]
              refine iteF (hR2 _ _ ⟨i, r, rfl, sm, hr2, hp2, ?_, hi'⟩)
              have e : t + 1 = 2 * ((t + 1) / 2) := by omega
              have e2 : j * (t + 1) = 2 * j * ((t + 1) / 2) := by
                conv => lhs; rw [e]
                rw [← Nat.mul_assoc, Nat.mul_comm j 2]
              omega
          · obtain ⟨i', r', rfl, sm3, hr3, hp3, hs3, hi3⟩ := hF
            refine ⟨_, rfl, _, _, rfl, rfl, ⟨by decide, by decide⟩, ?_⟩
            dsimp only
            rw [hdiv]
            refine ⟨_, rfl, _, _, rfl, rfl, _, rfl, ?_⟩
            by_cases tz : (t + 1) / 2 = 0
            · rw [tz]
              refine iteF ⟨i', j, r', p, rfl, sm3, hr3, hp3, ?_, fun h => absurd h (by omega)⟩
              rw [tz] at hs3
              omega
            · rw [decide_eq_true (show (((t + 1) / 2 : Nat) : Int) > 0 by omega)]
              have hjj : 2 * j ≤ n := by
                have h1 : 2 * j * 1 ≤ 2 * j * ((t + 1) / 2) := Nat.mul_le_mul_left _ (by omega)
                omega
              refine iteT ⟨_, rfl, _, rfl, p, p, fp f j, fp f j, 90000, rfl, hp3, hp3, fp_sm hf hm0 hm (ho.le hj'), fp_sm hf hm0 hm (ho.le hj'), by decide, fun v H4 s4 hv => ?_⟩
              rw [fp_add hf] at hv
              refine ⟨i', j + j, r', v, rfl, sm3.trans s4, hr3.same s4, hv, ?_, fun _ => by omega⟩
              have : j + j = 2 * j := by omega
              rw [this]
              exact hs3
    · obtain ⟨t, r, p, rfl, sm, hv⟩ := hF
      exact ⟨_, rfl, q r H' sm hv⟩
end
end Lw
namespace Lw
open PySem PySem.Spec L2 Lx
theorem scForm : FnScope ["chain"] ["chain"] (defScope sForm) := ⟨rfl, rfl, rfl, by decide +kernel, rfl, by decide +kernel, by decide +kernel⟩
section
variable {P : Program} {w : World} {K : PySem.W.Frag} {mg : Str → Option Value} {base : Heap} {aL aN aS : Addr}
theorem ok_form {f fC fF : Addr} {fd fdC fdF : FuncData} {k : Nat} (F : Fun K "form" "form" sForm f fd)
    (GC : FnOk P w K mg base CX0 k fC fdC ["chain"] spChkChain) (kC : PySem.W.keepIn K (.ref fC) = true) (bC : Binds K fdC ["chain"] []) (gC : mg "check_chain" = some (.ref fC))
    (GF : FnOk P w K mg base CX0 k fF fdF ["chain"] (spFoc K)) (kF : PySem.W.keepIn K (.ref fF) = true) (bF : Binds K fdF ["chain"] []) (gF : mg "form_of_chain" = some (.ref fF)) :
    FnOk P w K mg base CX0 (k + 1) f fd ["chain"] (spFoc K) := by
  refine F.ok scForm (fun vs H Q E h => ?_) (fun cdv A outer s H vs Q E hr h => ?_)
  · obtain ⟨x, rfl, _⟩ := h
    rfl
  · obtain ⟨x, rfl, hx, hsz, q⟩ := h
    refine ⟨_, pss_cons (ps_expr (pe_call GC hr (by rfl) gC kC bC .nil pass0 (pa_cons (pv 0) pa_nil))) (pss_one (ps_ret (pe_call GF hr (by rfl) gF kF bF .nil pass0 (pa_cons (pv 0) pa_nil)))), ?_⟩
    exact ⟨_, rfl, x, rfl, hx, fun H1 s1 => ⟨_, rfl, x, rfl, hx, hsz, fun v H' s2 => q v H' (s1.trans s2)⟩⟩
end
end Lw
namespace Lw
open PySem PySem.Spec L2 Lx
theorem scChkRun : FnScope ["run", "groups", "rest", "before", "index", "many", "j"] ["run"] (defScope sChkRun) := ⟨rfl, rfl, rfl, by decide +kernel, rfl, by decide +kernel, by decide +kernel⟩
def spChkRun (K : PySem.W.Frag) : Sp := fun vs H Q _ => ∃ x l r n, vs = [x] ∧ RnAt K H x l r ∧ RnOk n r ∧ ∀ H', Same H H' → Q .non H'
section
variable {P : Program} {w : World} {K : PySem.W.Frag} {mg : Str → Option Value} {base : Heap} {aL aN aS : Addr}
theorem ok_chkRun {f : Addr} {fd : FuncData} {k : Nat} (F : Fun K "check_run" "check_run" sChkRun f fd) (mE : mg "enumerate" = none) : FnOk P w K mg base CX0 (k + 1) f fd ["run"] (spChkRun K) := by
  refine F.ok scChkRun (fun vs H Q E h => ?_) (fun cdv A outer s H vs Q E hr h => ?_)
  · obtain ⟨x, l, r, n, rfl, _⟩ := h
    rfl
  · obtain ⟨_, l, r, n, rfl, ⟨p, rfl, hT, xs, hL, hP⟩, ho, q⟩ := h
    refine ⟨_, pss_cons (ps_asg (pv 0) (pg_tup (by rfl) (pgs_cons (pg_name (i := 1) scChkRun.nd rfl (.inl rfl)) (pgs_cons (pg_name (i := 2) scChkRun.nd rfl (.inl rfl)) pgs_nil))))
      (pss_cons (ps_set (i := 3) scChkRun.nd rfl (.inl rfl) pe_non)
      (pss_cons (ps_for PassesOwn.never rfl (pi_enum rfl mE (pa_cons (pv 1) pa_nil)) (pg_tup (by rfl) (pgs_cons (pg_name (i := 4) scChkRun.nd rfl (.inl rfl)) (pgs_cons (pg_tup (by rfl) (pgs_cons (pg_name (i := 5) scChkRun.nd rfl (.inl rfl)) (pgs_cons (pg_name (i := 6) scChkRun.nd rfl (.inl rfl)) pgs_nil))) pgs_nil)))
        (pss_cons (ps_if (PW.pt (pw_or (pt_cmpR op_lt (pv 5) pe_int (nomark _)) (pw_or (pt_cmpR op_lt (pv 6) pe_int (nomark _)) (pw_or1 (pt_cmpR op_eq (pv 6) (pv 3) (nomark _)))))) (pss_one ps_never) pss_nil)
        (pss_one (ps_set (i := 3) scChkRun.nd rfl (.inl rfl) (pv 6)))))
      (pss_one (ps_if (pt_cmpR op_lt (pv 2) pe_int (nomark _)) (pss_one ps_never) pss_nil)))), ?_⟩
    refine ⟨_, rfl, p, _, rfl, hT, rfl, _, _, rfl, _, _, rfl, rfl, ?_⟩
    refine ⟨_, rfl, l, xs, rfl, hL, ?_⟩
    refine for_it (walk_enum (xs := xs)) (fun i σ H' => Same H H' ∧ ∃ bf y4 y5 y6, σ = [some (.ref p), some (.ref l), some (.int r.2), some bf, y4, y5, y6] ∧ (i = 0 → bf = .non) ∧ ∀ i' x, i = i' + 1 → r.1[i']? = some x → bf = .int x.2)
      ⟨Same.refl H, .non, none, none, none, rfl, fun _ => rfl, fun _ _ e => by cases e⟩ (fun i σ H' _ hP => hP.1.seq hL) ?_ ?_
    · rintro i v σ H1 H2 hi ⟨sm, bf, y4, y5, y6, rfl, hb0, hb1⟩ ⟨T, u1, u2, rfl, nT, rfl, h1, h2⟩
      cases Option.some.inj h1
      obtain ⟨x, hx, p2, rfl, hp2'⟩ := hP.get h2
      have hp2 : SqT K H p2 [.int x.1, .int x.2] := .inl (.inl hp2')
      have s2 := sm.trans (same_upd (o := .tup [.int (i : Nat), .ref p2]) nT)
      obtain ⟨o1, o2, _, _, o5⟩ := ho.gs i x hx
      refine ⟨T, _, rfl, .inl (.inl upd_same), rfl, _, _, rfl, _, _, rfl, p2, _, rfl, sameT s2 hp2, rfl, _, _, rfl, _, _, rfl, rfl, rfl, ?_⟩
      refine ⟨_, rfl, _, _, rfl, rfl, _, rfl, ?_⟩
      rw [decide_eq_false (by omega : ¬ x.1 < 1)]
      refine iteF ⟨_, rfl, _, _, rfl, rfl, _, rfl, ?_⟩
      rw [decide_eq_false (by omega : ¬ x.2 < 0)]
      refine iteF ⟨_, rfl, _, rfl, ?_⟩
      have hne : scal (.int x.2) bf = true ∧ ¬ (V.int x.2 = bf) := by
        cases i with
        | zero =>
          cases hb0 rfl
          exact ⟨rfl, by intro z; cases z⟩
        | succ i' =>
          have hlt : i' < r.1.length := by
            have := (List.getElem?_eq_some_iff.mp hx).1
            omega
          have e := hb1 i' _ rfl (List.getElem?_eq_getElem hlt)
          subst e
          refine ⟨rfl, fun z => ?_⟩
          exact (ho.gs i' _ (List.getElem?_eq_getElem hlt)).2.2.2.2 x hx (V.int.inj z)
      refine ⟨hne.1, _, rfl, ?_⟩
      rw [decide_eq_false hne.2]
      refine iteF ⟨_, rfl, s2, _, _, _, _, rfl, (fun e => by cases e), fun i' x' e hx' => ?_⟩
      cases Nat.succ.inj e
      rw [hx] at hx'
      cases hx'
      rfl
    · rintro σ H1 ⟨sm, bf, y4, y5, y6, rfl, _⟩
      refine ⟨_, rfl, _, _, rfl, rfl, _, rfl, ?_⟩
      rw [decide_eq_false (by have := ho.rest.1; omega : ¬ r.2 < 0)]
      exact iteF (q _ sm)
end
end Lw
namespace Lw
open PySem PySem.Spec L2 Lx
theorem scMerged : FnScope ["groups", "merged", "many", "j"] ["groups"] (defScope sMerged) := ⟨rfl, rfl, rfl, by decide +kernel, rfl, by decide +kernel, by decide +kernel⟩
def spMerged (K : PySem.W.Frag) : Sp := fun vs H Q _ => ∃ l gs, vs = [.ref l] ∧ GsAt K H l gs ∧ gs.length ≤ 1000 ∧ ∀ p H' xs, H p = none → Same H H' → H' p = some (.lst xs) → Prs K H' xs (merged gs) → Q (.ref p) H'
section
variable {P : Program} {w : World} {K : PySem.W.Frag} {mg : Str → Option Value} {base : Heap} {aL aN aS : Addr}
theorem ok_merged {f : Addr} {fd : FuncData} {k : Nat} (F : Fun K "merged_groups" "merged_groups" sMerged f fd) : FnOk P w K mg base CX0 (k + 1) f fd ["groups"] (spMerged K) := by
  refine F.ok scMerged (fun vs H Q E h => ?_) (fun cdv A outer s H vs Q E hr h => ?_)
  · obtain ⟨l, gs, rfl, _⟩ := h
    rfl
  · obtain ⟨l, gs, rfl, ⟨xs, hL, hP⟩, hlen, q⟩ := h
    refine ⟨_, pss_cons (ps_set (i := 1) scMerged.nd rfl (.inl rfl) (pe_lst pa_nil))
      (pss_cons (ps_for PassesOwn.never rfl (pi_list (pv 0)) (pg_tup (by rfl) (pgs_cons (pg_name (i := 2) scMerged.nd rfl (.inl rfl)) (pgs_cons (pg_name (i := 3) scMerged.nd rfl (.inl rfl)) pgs_nil)))
        (pss_one (ps_if (PW.pt (pw_and (pt_truth (pv 1) (fun _ => rfl)) (pw_and1 (pt_cmpR op_eq (pe_ix ix_tup (pe_ix ix_list (pv 1) (pe_un un_neg pe_int) (fun _ _ => rfl)) pe_int (fun _ _ => rfl)) (pv 3) (nomark _)))))
          (pss_one (ps_asg (pe_tup (pa_cons (pe_op op_add (pe_ix ix_tup (pe_ix ix_list (pv 1) (pe_un un_neg pe_int) (fun _ _ => rfl)) pe_int (fun _ _ => rfl)) (pv 2)) (pa_cons (pv 3) pa_nil))) (pg_sub (pv 1) (pe_un un_neg pe_int) set_list)))
          (pss_one (ps_expr (pe_bm PySem.F.plainAttrs_list PySem.F.slot_list_append PySem.F.type_list_append mt_append (pv 1) (pa_cons (pe_tup (pa_cons (pv 2) (pa_cons (pv 3) pa_nil))) pa_nil)))))))
      (pss_one (ps_ret (pv 1)))), ?_⟩
    refine ⟨Nat.zero_le _, fun p np => ?_⟩
    refine ⟨_, rfl, l, rfl, ⟨_, (same_upd (o := .lst []) np).seq hL⟩, ?_⟩
    refine for_it (walk_list (xs := xs)) (fun i σ H' => Same H H' ∧ ∃ y2 y3 zs, σ = [some (.ref l), some (.ref p), y2, y3] ∧ H' p = some (.lst zs) ∧ Prs K H' zs (merged (gs.take i)) ∧ zs.length ≤ i)
      ⟨same_upd np, none, none, [], rfl, upd_same, .nil, Nat.le_refl _⟩ (fun i σ H' _ hQ => hQ.1.seq hL) ?_ ?_
    · rintro i u σ H1 H2 hi ⟨sm, y2, y3, zs, rfl, hp, hz, hzl⟩ ⟨rfl, hu⟩
      obtain ⟨x, hx, a, rfl, ha'⟩ := hP.get hu
      have ha : SqT K H a [.int x.1, .int x.2] := .inl (.inl ha')
      have htk : merged (gs.take (i + 1)) = addTo (Lx.merged (gs.take i)) x := by
        unfold Lx.merged
        rw [List.take_succ, hx, List.foldl_append]
        rfl
      have ha1 := sameT sm ha
      have hxl := hP.len
      refine ⟨a, _, rfl, ha1, rfl, _, _, rfl, _, _, rfl, rfl, ?_⟩
      refine ⟨_, rfl, !zs.isEmpty, .inl ⟨zs, .inl (.inl hp), rfl⟩, ?_⟩
      have app : ∀ t, H2 t = none → addTo (Lx.merged (gs.take i)) x = Lx.merged (gs.take i) ++ [x] →
          Same H (upd (upd H2 t (.tup [.int x.1, .int x.2])) p (.lst (zs ++ [.ref t]))) ∧ (upd (upd H2 t (.tup [.int x.1, .int x.2])) p (.lst (zs ++ [.ref t]))) p = some (.lst (zs ++ [.ref t])) ∧
          Prs K (upd (upd H2 t (.tup [.int x.1, .int x.2])) p (.lst (zs ++ [.ref t]))) (zs ++ [.ref t]) (merged (gs.take (i + 1))) ∧ (zs ++ [V.ref t]).length ≤ i + 1 := fun t nt e => by
        have s1 := same_upd (o := .tup [.int x.1, .int x.2]) nt
        refine ⟨Same.own (sm.trans s1) np, upd_same, ?_, by rw [List.length_append]; exact Nat.add_le_add_right hzl 1⟩
        rw [htk, e]
        exact Prs.lstUpd (s1 _ _ hp) ((hz.same s1).append (.cons ⟨t, rfl, upd_same⟩ .nil))
      rcases snoc_or (Lx.merged (gs.take i)) with e0 | ⟨as, y, e0⟩
      · have hz0 : zs = [] := by
          have := hz.len
          rw [e0] at this
          exact List.eq_nil_of_length_eq_zero this
        have app' := app
        subst hz0
        refine iteF (iteF ?_)
        refine ⟨_, rfl, .inl ⟨rfl, _, .inl (.inl hp)⟩, _, rfl, _, rfl, by show 2 ≤ sizeLine; decide, fun t nt => ?_⟩
        refine ⟨p, [], .ref t, rfl, rfl, same_upd nt _ _ hp, by rw [sizeLine_eq]; decide, ?_⟩
        obtain ⟨r1, r2, r3, r4⟩ := app t nt (by rw [e0]; rfl)
        exact ⟨r1, _, _, _, rfl, r2, r3, r4⟩
      · rw [e0] at hz
        obtain ⟨ws, v, rfl, hw, a2, rfl, ha2'⟩ := Prs.back hz
        have ha2 : SqT K H2 a2 [.int y.1, .int y.2] := .inl (.inl ha2')
        have hemp : (!(ws ++ [V.ref a2]).isEmpty) = true := by simp
        rw [hemp]
        refine iteT ?_
        refine ⟨_, rfl, 1, rfl, p, _, -1, _, rfl, rfl, .inl (.inl hp), atI_last ws (.ref a2), a2, _, 1, _, rfl, rfl, ha2, atI_nat (j := 1) rfl, _, rfl, rfl, _, rfl, ?_⟩
        by_cases ej : y.2 = x.2
        · rw [decide_eq_true (by rw [ej])]
          refine iteT ?_
          refine ⟨_, rfl, 1, rfl, p, _, -1, _, rfl, rfl, .inl (.inl hp), atI_last ws (.ref a2), a2, _, 0, _, rfl, rfl, ha2, atI_nat (j := 0) rfl, _, rfl, _, _, rfl, rfl, _, rfl, by show 2 ≤ sizeLine; decide, fun t nt => ?_⟩
          have s1 := same_upd (o := .tup [.int (y.1 + x.1), .int x.2]) nt
          refine ⟨_, rfl, 1, rfl, p, _, -1, _, rfl, rfl, s1 _ _ hp, ixN_last ws (.ref a2), ?_⟩
          have eset : (ws ++ [V.ref a2]).set ws.length (.ref t) = ws ++ [V.ref t] := by simp
          rw [eset]
          refine ⟨Same.own (sm.trans s1) np, _, _, ws ++ [.ref t], rfl, upd_same, ?_, ?_⟩
          · rw [htk, e0, addTo_snoc, if_pos ej]
            exact Prs.lstUpd (s1 _ _ hp) ((hw.same s1).append (.cons ⟨t, rfl, upd_same⟩ .nil))
          · simp only [List.length_append, List.length_cons, List.length_nil] at hzl ⊢
            omega
        · rw [decide_eq_false (fun z => ej (V.int.inj z))]
          refine iteF ?_
          refine ⟨_, rfl, .inl ⟨rfl, _, .inl (.inl hp)⟩, _, rfl, _, rfl, by show 2 ≤ sizeLine; decide, fun t nt => ?_⟩
          refine ⟨p, _, .ref t, rfl, rfl, same_upd nt _ _ hp, by rw [sizeLine_eq]; simp only [List.length_append, List.length_cons, List.length_nil] at hzl ⊢; have := hP.len; omega, ?_⟩
          obtain ⟨r1, r2, r3, r4⟩ := app t nt (by rw [e0, addTo_snoc, if_neg ej])
          exact ⟨r1, _, _, _, rfl, r2, r3, r4⟩
    · rintro σ H1 ⟨sm, y2, y3, zs, rfl, hp, hz, hzl⟩
      rw [List.take_of_length_le (by rw [← hP.len]; exact Nat.le_refl _)] at hz
      exact ⟨_, rfl, q p H1 zs np sm hp hz⟩
end
end Lw
namespace Lw
open PySem PySem.Spec L2 Lx
abbrev nUnits : List Str := ["run", "wanted", "groups", "rest", "many", "j"]
theorem scUnits : FnScope nUnits ["run", "wanted"] (defScope sUnits) := ⟨rfl, rfl, rfl, by decide +kernel, rfl, by decide +kernel, by decide +kernel⟩
def spUnits (K : PySem.W.Frag) : Sp := fun vs H Q _ => ∃ x l r y f n, vs = [x, y] ∧ RnAt K H x l r ∧ FmAt K H y f ∧ RnSm n r ∧ f.Ok n ∧ n ≤ 100000 ∧ ∀ H', Same H H' → Q (.int (units r f)) H'
section
variable {P : Program} {w : World} {K : PySem.W.Frag} {mg : Str → Option Value} {base : Heap} {aL aN aS : Addr}
theorem ok_units {f fS : Addr} {fd fdS : FuncData} {k : Nat} (F : Fun K "units" "units" sUnits f fd) (GS : FnOk P w K mg base CX0 k fS fdS ["j", "wanted"] (spUog K)) (kS : PySem.W.keepIn K (.ref fS) = true) (bS : Binds K fdS ["j", "wanted"] []) (gS : mg "units_of_group" = some (.ref fS)) (mS : mg "sum" = none) :
    FnOk P w K mg base CX0 (k + 1) f fd ["run", "wanted"] (spUnits K) := by
  refine F.ok scUnits (fun vs H Q E h => ?_) (fun cdv A outer s H vs Q E hr h => ?_)
  · obtain ⟨x, l, r, y, f, n, rfl, _⟩ := h
    rfl
  · obtain ⟨_, l, r, y, f, n, rfl, ⟨p, rfl, hT, xs, hL, hP⟩, hy, hs, hf, hn, q⟩ := h
    refine ⟨_, pss_cons (ps_asg (pv 0) (pg_tup (by rfl) (pgs_cons (pg_name (i := 2) scUnits.nd rfl (.inl rfl)) (pgs_cons (pg_name (i := 3) scUnits.nd rfl (.inl rfl)) pgs_nil))))
      (pss_one (ps_ret (pe_op op_add (pe_callB (cr_sum rfl) (by rfl) mS (by decide +kernel) (pa_cons (pe_lc (own := [("many", 4), ("j", 5)]) (g := gTup K 2 (gCons (gName 4) (gCons (gName 5) gNil))) (tt := tYes) rfl scUnits.nd (pi_list (pv 2)) (blkOk_by (own := [("many", 4), ("j", 5)]) (N := nUnits) (sc := defScope sUnits) (by decide +kernel))
          (fun _ _ _ _ _ => pg_tup (by rfl) (pgs_cons (pg_name (i := 4) scUnits.nd rfl (.inl rfl)) (pgs_cons (pg_name (i := 5) scUnits.nd rfl (.inl rfl)) pgs_nil))) (fun _ _ _ _ _ => pts_nil)
          (fun _ _ _ _ _ => pe_op op_mulW (pv 4) (pe_call GS hr (by rfl) gS kS bS .nil pass0 (pa_cons (pv 5) (pa_cons (pv 1) pa_nil))))) pa_nil)) (pv 3)))), ?_⟩
    refine ⟨_, rfl, p, _, rfl, hT, rfl, _, _, rfl, _, _, rfl, rfl, ?_⟩
    refine ⟨_, rfl, l, rfl, ⟨_, hL⟩, fun D nD => ?_⟩
    refine lc_it (walk_list (xs := xs)) (fun i H' => Same H H' ∧ H' D = some (.lst (((r.1.take i).map fun x => x.1 * (f.after x.2 + 1)).map V.int))) ⟨same_upd nD, upd_same⟩ (fun i H' _ hQ => hQ.1.seq hL) ?_ ?_
    · rintro i u H1 H2 hi ⟨sm, hD⟩ ⟨rfl, hu⟩
      obtain ⟨x, hx, a, rfl, ha'⟩ := hP.get hu
      have ha : SqT K H a [.int x.1, .int x.2] := .inl (.inl ha')
      have hxm := List.mem_of_getElem? hx
      obtain ⟨x1, x2, x3, x4⟩ := hs.1 x hxm
      have hb := Fm.after_ok (hf.mono (Nat.le_succ n)) x2 (x4.mono (Nat.le_succ n))
      have hb2 : Sm (n + 3) (f.after x.2 + 1) := hb.2.add (Nat.lt_of_lt_of_le (by decide : (1 : Int).natAbs < 2 ^ 1) (Nat.pow_le_pow_right (by decide) (by omega)))
      refine ⟨a, _, rfl, sameT sm ha, rfl, _, _, rfl, _, _, rfl, rfl, rfl, ?_⟩
      refine ⟨_, rfl, _, rfl, _, rfl, x.2, y, f, rfl, hy.same sm, _, _, rfl, rfl, wide_mul (x3.mono (Nat.le_succ n)) hb2 (by omega) (by omega) (by omega), ?_⟩
      refine ⟨_, hD, ?_, Same.own sm nD, ?_⟩
      · have := hs.2.2.2
        rw [List.length_map, List.length_map, List.length_take, sizeLine_eq]
        omega
      · rw [upd_same, List.take_succ, hx, List.map_append, List.map_append]
        rfl
    · rintro H1 ⟨sm, hD⟩
      rw [List.take_of_length_le (by rw [← hP.len]; exact Nat.le_refl _)] at hD
      refine ⟨D, _, rfl, .inl (.inl hD), _, rfl, _, _, rfl, rfl, ?_⟩
      rw [sum_mapV]
      exact q _ sm
end
end Lw
namespace Lw
open PySem PySem.Spec L2 Lx
abbrev nRunAft : List Str := ["run", "wanted", "groups", "rest", "many", "j"]
theorem scRunAft : FnScope nRunAft ["run", "wanted"] (defScope sRunAft) := ⟨rfl, rfl, rfl, by decide +kernel, rfl, by decide +kernel, by decide +kernel⟩
theorem scRou : FnScope ["total", "wanted", "number"] ["total", "wanted"] (defScope sRou) := ⟨rfl, rfl, rfl, by decide +kernel, rfl, by decide +kernel, by decide +kernel⟩
def spRou (K : PySem.W.Frag) : Sp := fun vs H Q _ => ∃ t y f n, vs = [.int t, y] ∧ FmAt K H y f ∧ Fm.isKeep f = false ∧ f.Ok n ∧ Sm (2 * n + 20) t ∧ 0 < n ∧ n ≤ 100000 ∧ ∀ v H', Same H H' → NewRn K H H' v (ofUnits t f) → Q v H'
def spRunAft (K : PySem.W.Frag) : Sp := fun vs H Q _ => ∃ x l r y f n, vs = [x, y] ∧ RnAt K H x l r ∧ FmAt K H y f ∧ RnSm n r ∧ f.Ok n ∧ 0 < n ∧ n ≤ 100000 ∧ ∀ v H', Same H H' → NewRn K H H' v (runAfter r f) → Q v H'
section
variable {P : Program} {w : World} {K : PySem.W.Frag} {mg : Str → Option Value} {base : Heap} {aL aN aS : Addr}
theorem ok_rou {f : Addr} {fd : FuncData} {k : Nat} (F : Fun K "run_of_units" "run_of_units" sRou f fd) : FnOk P w K mg base CX0 (k + 1) f fd ["total", "wanted"] (spRou K) := by
  refine F.ok scRou (fun vs H Q E h => ?_) (fun cdv A outer s H vs Q E hr h => ?_)
  · obtain ⟨t, y, f, n, rfl, _⟩ := h
    rfl
  · obtain ⟨tot, _, f, n, rfl, ⟨yp, rfl, hY⟩, hk, hf, hu, hn0, hn, q⟩ := h
    refine ⟨_, pss_cons (ps_set (i := 2) scRou.nd rfl (.inl rfl) (pe_op op_mulW (pe_ix ix_tup (pv 1) pe_int (fun _ _ => rfl)) (pv 0)))
      (pss_cons (ps_if (pt_cmpR op_eq (pe_ix ix_tup (pv 1) pe_int (fun _ _ => rfl)) pe_str (nomark _)) (pss_one (ps_ret (pe_tup (pa_cons (pe_lst pa_nil) (pa_cons (pv 2) pa_nil))))) pss_nil)
      (pss_cons (ps_if (pt_cmpR op_eq (pv 2) pe_int (nomark _)) (pss_one (ps_ret (pe_tup (pa_cons (pe_lst pa_nil) (pa_cons pe_int pa_nil))))) pss_nil)
      (pss_one (ps_ret (pe_tup (pa_cons (pe_lst (pa_cons (pe_tup (pa_cons (pv 2) (pa_cons (pe_ix ix_tup (pv 1) pe_int (fun _ _ => rfl)) pa_nil))) pa_nil)) (pa_cons pe_int pa_nil))))))), ?_⟩
    cases f with
    | keep b a => cases hk
    | cr b a k' =>
      refine ⟨_, rfl, yp, _, 3, _, rfl, rfl, hY, atI_nat (j := 3) rfl, _, rfl, _, _, rfl, rfl, wide_mul hf.2.2.2.2.2 hu hn0 (by omega) (by omega), ?_⟩
      refine ⟨_, rfl, yp, _, 0, _, rfl, rfl, hY, atI_nat (j := 0) rfl, rfl, _, rfl, iteT ?_⟩
      refine ⟨Nat.zero_le _, fun p2 np2 => ⟨_, rfl, by show 2 ≤ sizeLine; decide, fun t nt => ?_⟩⟩
      have s2 := same_upd (o := .lst []) np2
      have s3 := same_upd (o := .tup [.ref p2, .int (k' * tot)]) nt
      exact q _ _ (s2.trans s3) ⟨t, p2, [], rfl, s2.free nt, np2, upd_same, s3 _ _ upd_same, .nil⟩
    | lf b a k' c =>
      refine ⟨_, rfl, yp, _, 3, _, rfl, rfl, hY, atI_nat (j := 3) rfl, _, rfl, _, _, rfl, rfl, wide_mul hf.2.2.2.2.2.2.1 hu hn0 (by omega) (by omega), ?_⟩
      refine ⟨_, rfl, yp, _, 0, _, rfl, rfl, hY, atI_nat (j := 0) rfl, rfl, _, rfl, iteF ?_⟩
      refine ⟨_, rfl, rfl, _, rfl, ?_⟩
      by_cases ez : k' * tot = 0
      · rw [decide_eq_true (show V.int (k' * tot) = V.int 0 by rw [ez])]
        refine iteT ⟨Nat.zero_le _, fun p2 np2 => ⟨by show 2 ≤ sizeLine; decide, fun t nt => ?_⟩⟩
        have s2 := same_upd (o := .lst []) np2
        have s3 := same_upd (o := .tup [.ref p2, .int 0]) nt
        refine q _ _ (s2.trans s3) ?_
        rw [show ofUnits tot (.lf b a k' c) = ([], 0) from if_pos ez]
        exact ⟨t, p2, [], rfl, s2.free nt, np2, upd_same, s3 _ _ upd_same, .nil⟩
      · rw [decide_eq_false (fun z => ez (V.int.inj z))]
        refine iteF ⟨_, rfl, _, rfl, yp, _, 4, _, rfl, rfl, hY, atI_nat (j := 4) rfl, by show 2 ≤ sizeLine; decide, fun g ng => ⟨by show 1 ≤ sizeLine; decide, fun p2 np2 => ⟨by show 2 ≤ sizeLine; decide, fun t nt => ?_⟩⟩⟩
        have s1 := same_upd (o := .tup [.int (k' * tot), .int c]) ng
        have s2 := same_upd (o := .lst [.ref g]) np2
        have s3 := same_upd (o := .tup [.ref p2, .int 0]) nt
        refine q _ _ ((s1.trans s2).trans s3) ?_
        rw [show ofUnits tot (.lf b a k' c) = ([(k' * tot, c)], 0) from if_neg ez]
        exact ⟨t, p2, [.ref g], rfl, (s1.trans s2).free nt, s1.free np2, upd_same, s3 _ _ upd_same, .cons ⟨g, rfl, s3 _ _ (s2 _ _ upd_same)⟩ .nil⟩
theorem ok_runAft {f fS fM fU fR : Addr} {fd fdS fdM fdU fdR : FuncData} {k : Nat} (F : Fun K "run_after" "run_after" sRunAft f fd)
    (GS : FnOk P w K mg base CX0 k fS fdS ["j", "wanted"] (spSigns K)) (kS : PySem.W.keepIn K (.ref fS) = true) (bS : Binds K fdS ["j", "wanted"] []) (gS : mg "signs_after" = some (.ref fS))
    (GM : FnOk P w K mg base CX0 k fM fdM ["groups"] (spMerged K)) (kM : PySem.W.keepIn K (.ref fM) = true) (bM : Binds K fdM ["groups"] []) (gM : mg "merged_groups" = some (.ref fM))
    (GU : FnOk P w K mg base CX0 k fU fdU ["run", "wanted"] (spUnits K)) (kU : PySem.W.keepIn K (.ref fU) = true) (bU : Binds K fdU ["run", "wanted"] []) (gU : mg "units" = some (.ref fU))
    (GR : FnOk P w K mg base CX0 k fR fdR ["total", "wanted"] (spRou K)) (kR : PySem.W.keepIn K (.ref fR) = true) (bR : Binds K fdR ["total", "wanted"] []) (gR : mg "run_of_units" = some (.ref fR)) :
    FnOk P w K mg base CX0 (k + 1) f fd ["run", "wanted"] (spRunAft K) := by
  refine F.ok scRunAft (fun vs H Q E h => ?_) (fun cdv A outer s H vs Q E hr h => ?_)
  · obtain ⟨x, l, r, y, f, n, rfl, _⟩ := h
    rfl
  · obtain ⟨_, l, r, y, f, n, rfl, ⟨p, rfl, hT, xs, hL, hP⟩, ⟨yp, rfl, hY⟩, hs, hf, hn0, hn, q⟩ := h
    refine ⟨_, pss_cons (ps_asg (pv 0) (pg_tup (by rfl) (pgs_cons (pg_name (i := 2) scRunAft.nd rfl (.inl rfl)) (pgs_cons (pg_name (i := 3) scRunAft.nd rfl (.inl rfl)) pgs_nil))))
      (pss_cons (ps_if (pt_cmpR op_eq (pe_ix ix_tup (pv 1) pe_int (fun _ _ => rfl)) pe_str (nomark _)) (pss_one (ps_ret (pe_tup (pa_cons (pe_call GM hr (by rfl) gM kM bM .nil pass0 (pa_cons (pe_lc (own := [("many", 4), ("j", 5)]) (g := gTup K 2 (gCons (gName 4) (gCons (gName 5) gNil))) (tt := tYes) rfl scRunAft.nd (pi_list (pv 2)) (blkOk_by (own := [("many", 4), ("j", 5)]) (N := nRunAft) (sc := defScope sRunAft) (by decide +kernel))
          (fun _ _ _ _ _ => pg_tup (by rfl) (pgs_cons (pg_name (i := 4) scRunAft.nd rfl (.inl rfl)) (pgs_cons (pg_name (i := 5) scRunAft.nd rfl (.inl rfl)) pgs_nil))) (fun _ _ _ _ _ => pts_nil)
          (fun _ _ _ _ _ => pe_tup (pa_cons (pv 4) (pa_cons (pe_call GS hr (by rfl) gS kS bS .nil pass0 (pa_cons (pv 5) (pa_cons (pv 1) pa_nil))) pa_nil)))) pa_nil)) (pa_cons (pv 3) pa_nil))))) pss_nil)
      (pss_one (ps_ret (pe_call GR hr (by rfl) gR kR bR .nil pass0 (pa_cons (pe_call GU hr (by rfl) gU kU bU .nil pass0 (pa_cons (pv 0) (pa_cons (pv 1) pa_nil))) (pa_cons (pv 1) pa_nil)))))), ?_⟩
    refine ⟨_, rfl, p, _, rfl, hT, rfl, _, _, rfl, _, _, rfl, rfl, ?_⟩
    refine ⟨_, rfl, yp, _, 0, _, rfl, rfl, hY, atI_nat (j := 0) f.vs0, rfl, _, rfl, ?_⟩
    have hu := units_ok hs hf
    cases f with
    | keep b a =>
      refine iteT ⟨_, rfl, l, rfl, ⟨_, hL⟩, fun D nD => ?_⟩
      refine lc_it (walk_list (xs := xs)) (fun i H' => Same H H' ∧ ∃ zs, H' D = some (.lst zs) ∧ Prs K H' zs (moved (.keep b a) (r.1.take i))) ⟨same_upd nD, [], upd_same, .nil⟩ (fun i H' _ hQ => hQ.1.seq hL) ?_ ?_
      · rintro i u H1 H2 hi ⟨sm, zs, hD, hz⟩ ⟨rfl, hu⟩
        obtain ⟨x, hx, ap, rfl, ha'⟩ := hP.get hu
        have ha : SqT K H ap [.int x.1, .int x.2] := .inl (.inl ha')
        refine ⟨ap, _, rfl, sameT sm ha, rfl, _, _, rfl, _, _, rfl, rfl, rfl, ?_⟩
        refine ⟨_, rfl, _, rfl, _, rfl, x.2, _, .keep b a, rfl, ⟨yp, rfl, sameT sm hY⟩, by show 2 ≤ sizeLine; decide, fun t nt => ?_⟩
        have s1 := same_upd (o := .tup [.int x.1, .int ((Fm.keep b a).after x.2)]) nt
        have hzl : zs.length ≤ 1000 := by
          have e1 := hz.len
          have e2 := hs.2.2.2
          unfold moved at e1
          rw [List.length_map, List.length_take] at e1
          omega
        refine ⟨zs, s1 _ _ hD, by rw [sizeLine_eq]; omega, Same.own (sm.trans s1) nD, _, upd_same, ?_⟩
        have e : moved (.keep b a) (r.1.take (i + 1)) = moved (.keep b a) (r.1.take i) ++ [(x.1, (Fm.keep b a).after x.2)] := by
          unfold moved
          rw [List.take_succ, hx, List.map_append]
          rfl
        rw [e]
        exact Prs.lstUpd (s1 _ _ hD) ((hz.same s1).append (.cons ⟨t, rfl, upd_same⟩ .nil))
      · rintro H1 ⟨sm, zs, hD, hz⟩
        rw [List.take_of_length_le (by rw [← hP.len]; exact Nat.le_refl _)] at hz
        have hml : (moved (.keep b a) r.1).length ≤ 1000 := by
          unfold moved
          rw [List.length_map]
          exact hs.2.2.2
        refine ⟨D, _, rfl, ⟨zs, .inl (.inl hD), hz⟩, hml, fun p2 H2 ws np2 s2 hp2 hw => ?_⟩
        refine ⟨_, rfl, by show 2 ≤ sizeLine; decide, fun t nt => ?_⟩
        have s3 := same_upd (o := .tup [.ref p2, .int r.2]) nt
        exact q _ _ ((sm.trans s2).trans s3) ⟨t, p2, ws, rfl, (sm.trans s2).free nt, sm.free np2, upd_same, s3 _ _ hp2, hw.same s3⟩
    | cr b a k' =>
      refine iteF ⟨_, rfl, _, rfl, _, l, r, _, .cr b a k', n, rfl, ⟨p, rfl, hT, xs, hL, hP⟩, ⟨yp, rfl, hY⟩, hs, hf, hn, fun H1 sm => ?_⟩
      refine ⟨_, rfl, _, _, .cr b a k', n, rfl, ⟨yp, rfl, sameT sm hY⟩, rfl, hf, hu.2, hn0, hn, fun v H2 s2 hv => q v H2 (sm.trans s2) (NewRn.back sm hv)⟩
    | lf b a k' c =>
      refine iteF ⟨_, rfl, _, rfl, _, l, r, _, .lf b a k' c, n, rfl, ⟨p, rfl, hT, xs, hL, hP⟩, ⟨yp, rfl, hY⟩, hs, hf, hn, fun H1 sm => ?_⟩
      refine ⟨_, rfl, _, _, .lf b a k' c, n, rfl, ⟨yp, rfl, sameT sm hY⟩, rfl, hf, hu.2, hn0, hn, fun v H2 s2 hv => q v H2 (sm.trans s2) (NewRn.back sm hv)⟩
end
end Lw
namespace Lw
open PySem PySem.Spec L2 Lx
theorem scApply : FnScope ["run", "wanted"] ["run", "wanted"] (defScope sApply) := ⟨rfl, rfl, rfl, by decide +kernel, rfl, by decide +kernel, by decide +kernel⟩
def spApply (K : PySem.W.Frag) : Sp := fun vs H Q _ => ∃ x l r y f n, vs = [x, y] ∧ RnAt K H x l r ∧ FmAt K H y f ∧ RnOk n r ∧ f.Ok n ∧ 0 < n ∧ n ≤ 100000 ∧ ∀ v H', Same H H' → NewRn K H H' v (runAfter r f) → Q v H'
section
variable {P : Program} {w : World} {K : PySem.W.Frag} {mg : Str → Option Value} {base : Heap} {aL aN aS : Addr}
theorem ok_apply {f fC fO fR : Addr} {fd fdC fdO fdR : FuncData} {k : Nat} (F : Fun K "apply_form" "apply_form" sApply f fd)
    (GC : FnOk P w K mg base CX0 k fC fdC ["run"] (spChkRun K)) (kC : PySem.W.keepIn K (.ref fC) = true) (bC : Binds K fdC ["run"] []) (gC : mg "check_run" = some (.ref fC))
    (GO : FnOk P w K mg base CX0 k fO fdO ["wanted"] (spChkForm K)) (kO : PySem.W.keepIn K (.ref fO) = true) (bO : Binds K fdO ["wanted"] []) (gO : mg "check_form" = some (.ref fO))
    (GR : FnOk P w K mg base CX0 k fR fdR ["run", "wanted"] (spRunAft K)) (kR : PySem.W.keepIn K (.ref fR) = true) (bR : Binds K fdR ["run", "wanted"] []) (gR : mg "run_after" = some (.ref fR)) :
    FnOk P w K mg base CX0 (k + 1) f fd ["run", "wanted"] (spApply K) := by
  refine F.ok scApply (fun vs H Q E h => ?_) (fun cdv A outer s H vs Q E hr h => ?_)
  · obtain ⟨x, l, r, y, f, n, rfl, _⟩ := h
    rfl
  · obtain ⟨x, l, r, y, f, n, rfl, hR, hY, ho, hf, hn0, hn, q⟩ := h
    refine ⟨_, pss_cons (ps_expr (pe_call GC hr (by rfl) gC kC bC .nil pass0 (pa_cons (pv 0) pa_nil))) (pss_cons (ps_expr (pe_call GO hr (by rfl) gO kO bO .nil pass0 (pa_cons (pv 1) pa_nil)))
      (pss_one (ps_ret (pe_call GR hr (by rfl) gR kR bR .nil pass0 (pa_cons (pv 0) (pa_cons (pv 1) pa_nil)))))), ?_⟩
    exact ⟨_, rfl, x, l, r, n, rfl, hR, ho, fun H1 s1 => ⟨_, rfl, y, f, n, rfl, hY.same s1, hf, fun H2 s2 => ⟨_, rfl, _, rfl, x, l, r, y, f, n, rfl, hR.same (s1.trans s2), hY.same (s1.trans s2), (RnOk.sm ho), hf, hn0, hn, fun v H3 s3 hv => q v H3 ((s1.trans s2).trans s3) (hv.back (s1.trans s2))⟩⟩⟩
end
end Lw
namespace Lw
open PySem PySem.Spec L2 Lx
theorem scBag : FnScope ["script", "blend", "great", "cell"] ["script"] (defScope sLBag) := ⟨rfl, rfl, rfl, by decide +kernel, rfl, by decide +kernel, by decide +kernel⟩
theorem scDraw : FnScope ["bag", "many", "drawn", "turn", "mixed"] ["bag", "many"] (defScope sLDraw) := ⟨rfl, rfl, rfl, by decide +kernel, rfl, by decide +kernel, by decide +kernel⟩
def spBag (K : PySem.W.Frag) : Sp := fun vs H Q _ => ∃ (a : Addr) (ns : List Int), vs = [.ref a] ∧ SqL K H a (ns.map V.int) ∧ ns.length ≤ 63 ∧ ∀ H' r gl, Same H H' → H r = none → H gl = none → BagAt H' r gl 0 → Q (.ref r) H'
def spDraw : Sp := fun vs H Q _ => ∃ (r gl : Addr) (n : Nat) (m : Int), vs = [.ref r, .int m] ∧ BagAt H r gl n ∧ n < 1000000000 ∧ 0 < m ∧ m.natAbs < 2 ^ 4000 ∧ ∀ v H', 0 ≤ v → v < m → BagAt H' r gl (n + 1) → Kb r gl H H' → Q (.int v) H'
structure BgF (mg : Str → Option Value) : Prop where
  abs : mg "abs" = none
structure DrF (mg : Str → Option Value) : Prop where
  len : mg "len" = none
theorem n_61 : (2305843009213693951 : Int) ≠ 0 := by decide
section
variable {P : Program} {w : World} {K : PySem.W.Frag} {mg : Str → Option Value} {base : Heap}
theorem ok_bag {f : Addr} {fd : FuncData} {k : Nat} (F : Fun K "_law_bag" "_law_bag" sLBag f fd) (Z : BgF mg) : FnOk P w K mg base CX0 (k + 1) f fd ["script"] (spBag K) := by
  refine F.ok scBag (fun vs H Q E h => ?_) (fun cdv A outer s H vs Q E hr h => ?_)
  · obtain ⟨a, ns, rfl, _⟩ := h
    rfl
  · obtain ⟨a, ns, rfl, hS, hlen, q⟩ := h
    refine ⟨_, (pss_cons (ps_par (i := 1) (j := 2) rfl scBag.nd rfl rfl (by decide) rfl rfl (pa_cons pe_int (pa_cons (pe_lst pa_nil) pa_nil)) rfl)
      (pss_cons (ps_for PassesOwn.never rfl (pi_list (pv 0)) (pg_name (i := 3) scBag.nd rfl (.inl rfl))
          (pss_cons (ps_set (i := 1) scBag.nd rfl (.inl rfl) (pe_op op_modN (pe_op op_add (pe_op op_mul (pv 1) pe_int) (pv 3)) pe_int))
          (pss_one (ps_if (pt_cmpR op_ge (pe_callB call_abs (by rfl) Z.abs (by decide +kernel) (pa_cons (pv 3) pa_nil)) (pe_op op_pow pe_int pe_int) (nomark _))
              (pss_one (ps_expr (pe_bm PySem.F.plainAttrs_list PySem.F.slot_list_append PySem.F.type_list_append mt_append (pv 2) (pa_cons (pe_callB call_abs (by rfl) Z.abs (by decide +kernel) (pa_cons (pv 3) pa_nil)) pa_nil)))) pss_nil))))
      (pss_one (ps_ret (pe_disp (pps_cons pe_str (pv 2) (pps_cons pe_str pe_int (pps_cons pe_str pe_int (pps_cons pe_str (pv 1) pps_nil)))) (by rfl) (by rfl) (fun z => by cases z) (by decide)))))), ?_⟩
    refine ⟨Nat.zero_le _, fun gl ngl => ?_⟩
    have s0 := same_upd (o := .lst []) ngl
    refine ⟨_, _, rfl, ?_⟩
    refine ⟨_, rfl, a, rfl, ⟨_, s0.seq hS⟩, ?_⟩
    refine for_it (walk_list (xs := ns.map V.int)) (fun i σ H' => Same H H' ∧ ∃ (b : Int) (ds : List Int) (y3 : Option V), σ = [some (.ref a), some (.int b), some (.ref gl), y3] ∧ H' gl = some (.lst (ds.map V.int)) ∧ (∀ d ∈ ds, 0 ≤ d) ∧ 0 ≤ b ∧ b < 2305843009213693952 ∧ ds.length ≤ i)
      ⟨s0, 11, [], none, rfl, upd_same, (fun d hd => by cases hd), by decide, by decide, Nat.le_refl _⟩ (fun i σ H' _ hQ => hQ.1.seq hS) ?_ ?_
    · rintro i u σ H1 H2 hi ⟨sm, b, ds, y3, rfl, hp, hds, hb0, hb1, hl⟩ ⟨rfl, hu⟩
      obtain ⟨z, rfl⟩ : ∃ z : Int, u = .int z := by
        obtain ⟨z, _, e⟩ := List.mem_map.mp (List.mem_of_getElem? hu)
        exact ⟨z, e.symm⟩
      have f1 := fm (a := b * 1000003 + z) (show (0 : Int) < 2305843009213693951 by decide)
      refine ⟨_, rfl, _, _, rfl, rfl, .inl ⟨by omega, by omega⟩, _, rfl, _, _, rfl, rfl, _, _, rfl, rfl, n_61, ?_⟩
      refine ⟨_, rfl, _, rfl, _, _, rfl, rfl, ⟨by decide, by decide, by decide⟩, _, _, rfl, rfl, _, rfl, ite2 (fun c => ?_) (fun c => ?_)⟩
      · refine ⟨_, rfl, .inl ⟨rfl, _, .inl (.inl hp)⟩, _, rfl, _, rfl, ?_⟩
        refine ⟨gl, _, _, rfl, rfl, hp, by rw [List.length_map, sizeLine_eq]; have : (ns.map V.int).length = ns.length := List.length_map ..; omega, ?_⟩
        refine ⟨Same.own sm ngl, _, ds ++ [if z < 0 then -z else z], _, rfl, by rw [upd_same, List.map_append]; rfl, fun d hd => ?_, f1.1, by omega, by rw [List.length_append]; exact Nat.add_le_add_right hl 1⟩
        rcases List.mem_append.mp hd with h | h
        · exact hds d h
        · rw [List.mem_singleton.mp h]
          split <;> omega
      · exact ⟨sm, _, ds, _, rfl, hp, hds, f1.1, by omega, by omega⟩
    · rintro σ H1 ⟨sm, b, ds, y3, rfl, hp, hds, hb0, hb1, hl⟩
      refine fun r nr => ?_
      have s1 := same_upd (o := .dK []) nr
      refine ⟨_, rfl, _, rfl, upd_same, [(.inr "great", .ref gl), (.inr "left", .int 0), (.inr "turn", .int 0), (.inr "blend", .int b)], rfl, (show 4 ≤ 15 by decide), ?_⟩
      have hne : r ≠ gl := Ne.symm (ne_of_none hp nr)
      refine q _ r gl (Same.own (sm.trans s1) (sm.free nr)) (sm.free nr) ngl ⟨ds, 0, 0, b, upd_same, ?_, hds, by decide, by decide, by decide, hb0, hb1, hne⟩
      rw [upd_ne (Ne.symm hne)]
      exact s1 _ _ hp
theorem ok_draw {f : Addr} {fd : FuncData} {k : Nat} (F : Fun K "_law_draw" "_law_draw" sLDraw f fd) (Z : DrF mg) : FnOk P w K mg base CX0 (k + 1) f fd ["bag", "many"] spDraw := by
  refine F.ok scDraw (fun vs H Q E h => ?_) (fun cdv A outer s H vs Q E hr h => ?_)
  · obtain ⟨r, gl, n, m, rfl, _⟩ := h
    rfl
  · obtain ⟨r, gl, n, m, rfl, ⟨ds, l, t, b, h1, h2, h3, h4, h5, h6, h7, h8, h9⟩, hn, hm0, hm1, q⟩ := h
    refine ⟨_, (pss_cons (ps_if (PW.pt (pw_and (pt_cmpR op_lt (pe_dget (hu_of hr) (pv 0) pe_str (fun _ _ => rfl)) (pv 1) (nomark _)) (pw_and1 (pt_cmpR op_gt (pe_callB call_len_seq (by rfl) Z.len PySem.boot_len (pa_cons (pe_dget (hu_of hr) (pv 0) pe_str (fun _ _ => rfl)) pa_nil)) pe_int (nomark _)))))
          (pss_one (ps_dput (hu_of hr) (pv 0) pe_str (pe_bm PySem.F.plainAttrs_list PySem.F.slot_list_pop PySem.F.type_list_pop mt_popAt (pe_dget (hu_of hr) (pv 0) pe_str (fun _ _ => rfl)) (pa_cons pe_int pa_nil)) rfl)) pss_nil)
      (pss_cons (ps_if (pt_cmpR op_ge (pe_dget (hu_of hr) (pv 0) pe_str (fun _ _ => rfl)) (pv 1) (nomark _))
          (pss_cons (ps_set (i := 2) scDraw.nd rfl (.inl rfl) (pe_op op_modN (pe_dget (hu_of hr) (pv 0) pe_str (fun _ _ => rfl)) (pv 1)))
          (pss_cons (ps_dput (hu_of hr) (pv 0) pe_str (pe_op op_fdivW (pe_dget (hu_of hr) (pv 0) pe_str (fun _ _ => rfl)) (pv 1)) rfl)
          (pss_one (ps_ret (pv 2))))) pss_nil)
      (pss_cons (ps_daug (hu_of hr) (pv 0) pe_str pe_int in_add (fun _ _ _ => rfl))
      (pss_cons (ps_set (i := 3) scDraw.nd rfl (.inl rfl) (pe_dget (hu_of hr) (pv 0) pe_str (fun _ _ => rfl)))
      (pss_cons (ps_set (i := 4) scDraw.nd rfl (.inl rfl) (pe_op op_add (pe_op op_mulW (pe_op op_add (pe_dget (hu_of hr) (pv 0) pe_str (fun _ _ => rfl)) (pe_op op_mul pe_int (pv 3))) (pe_op op_powW (pe_op op_add (pv 3) pe_int) pe_int)) (pe_op op_mul pe_int (pv 3))))
      (pss_one (ps_ret (pe_op op_modN (pe_op op_fdiv (pe_op op_modN (pe_op op_powW (pe_op op_modN (pv 4) pe_int) pe_int) (pe_op op_add (pe_op op_pow pe_int pe_int) pe_int)) pe_int) (pv 1))))))))), ?_⟩
    have hmn : m ≠ 0 := by omega
    refine if_fin (fun σ H1 => ∃ (ds : List Int) (l : Int), σ = [some (.ref r), some (.int m), none, none, none] ∧ Kb r gl H H1 ∧ H1 r = some (.dK (bagK gl l t b)) ∧ H1 gl = some (.lst (ds.map V.int)) ∧ (∀ d ∈ ds, 0 ≤ d) ∧ 0 ≤ l) (fun R hR => ?_) (fun σ H1 hF => ?_)
    · refine ⟨_, rfl, r, _, rfl, bag_get h1 bag_left, _, rfl, _, _, rfl, rfl, _, rfl, ?_⟩
      by_cases c : l < m
      · rw [decide_eq_true c]
        refine iteT ⟨_, rfl, r, _, rfl, bag_get h1 bag_great, gl, _, rfl, .inl (.inl (.inl h2)), _, _, rfl, rfl, _, rfl, ?_⟩
        cases ds with
        | nil => exact iteF (hR _ _ ⟨[], l, rfl, Kb.refl r gl H, h1, h2, h3, h4⟩)
        | cons d ds =>
          rw [decide_eq_true (show ((((d :: ds).map V.int).length : Nat) : Int) > 0 by rw [List.length_map, List.length_cons]; omega)]
          refine iteT ?_
          refine ⟨_, rfl, r, _, rfl, bag_get h1 bag_great, .inl ⟨rfl, _, .inl (.inl h2)⟩, ?_⟩
          refine ⟨gl, (d :: ds).map V.int, 0, 0, .int d, rfl, rfl, h2, by decide, by decide, PySem.seqIndex_of (by decide) (by simp), rfl, ?_⟩
          have hr2 : upd H gl (.lst (((d :: ds).map V.int).eraseIdx 0)) r = some (.dK (bagK gl l t b)) := by rw [upd_ne h9]; exact h1
          refine ⟨_, rfl, r, _, rfl, DPut.k (k := .inr "left") hr2 (show 4 < sizeLine by decide), hR _ _ ⟨ds, d, rfl, Kb.upd_g.trans Kb.upd_r, upd_same, ?_, fun x hx => h3 x (List.mem_cons_of_mem _ hx), h3 d (List.mem_cons_self ..)⟩⟩
          rw [upd_ne (Ne.symm h9)]
          exact upd_same
      · rw [decide_eq_false c]
        exact iteF (hR _ _ ⟨ds, l, rfl, Kb.refl r gl H, h1, h2, h3, h4⟩)
    · obtain ⟨ds, l, rfl, hk, h1, h2, h3, h4⟩ := hF
      refine ⟨_, rfl, r, _, rfl, bag_get h1 bag_left, _, rfl, _, _, rfl, rfl, _, rfl, ite2 (fun c => ?_) (fun c => ?_)⟩
      · refine ⟨_, rfl, r, _, rfl, bag_get h1 bag_left, _, rfl, _, _, rfl, rfl, hmn, ?_⟩
        refine ⟨_, rfl, r, _, rfl, bag_get h1 bag_left, _, rfl, _, _, rfl, rfl, wide_div hm0 hm1 (by decide) (by decide), ?_⟩
        refine ⟨_, rfl, r, _, rfl, DPut.k (k := .inr "left") h1 (show 4 < sizeLine by decide), ?_⟩
        refine ⟨_, rfl, ?_⟩
        have f1 := fm (a := l) hm0
        refine q _ _ f1.1 f1.2 ⟨ds, l / m, t, b, upd_same, ?_, h3, Int.ediv_nonneg h4 (by omega), h5, by omega, h7, h8, h9⟩ (hk.trans Kb.upd_r)
        rw [upd_ne (Ne.symm h9)]
        exact h2
      · refine ⟨_, rfl, r, _, rfl, bag_get h1 bag_turn, _, _, rfl, rfl, _, DPut.k (k := .inr "turn") h1 (show 4 < sizeLine by decide), ?_⟩
        have hr2 : upd H1 r (.dK (putK (bagK gl l t b) (.inr "turn") (.int (t + 1)))) r = some (.dK (bagK gl l (t + 1) b)) := upd_same
        have hg2 : upd H1 r (.dK (putK (bagK gl l t b) (.inr "turn") (.int (t + 1)))) gl = some (.lst (ds.map V.int)) := by rw [upd_ne (Ne.symm h9)]; exact h2
        have hk2 : Kb r gl H (upd H1 r (.dK (putK (bagK gl l t b) (.inr "turn") (.int (t + 1))))) := hk.trans Kb.upd_r
        dsimp only
        generalize upd H1 r (.dK (putK (bagK gl l t b) (.inr "turn") (.int (t + 1)))) = H2 at hr2 hg2 hk2
        refine ⟨_, rfl, r, _, rfl, bag_get hr2 bag_turn, ?_⟩
        refine ⟨_, rfl, r, _, rfl, bag_get hr2 bag_blend, _, rfl, _, _, rfl, rfl, .inl ⟨by decide, by decide⟩, _, _, rfl, rfl, _, rfl, _, _, rfl, rfl, _, _, rfl, rfl, pow_sm (by omega) (by omega) (by decide) (by decide), _, _, rfl, rfl, ?_, ?_⟩
        · have e : (t + 1 + 29) ^ Int.toNat 2 = (t + 1 + 29) * (t + 1 + 29) := by
            show (t + 1 + 29) ^ 2 = _
            rw [Int.pow_succ, Int.pow_succ, Int.pow_zero, Int.one_mul]
          have hx : Sm 32 (t + 1 + 29) := by
            unfold Sm
            have : (2 : Nat) ^ 32 = 4294967296 := by decide
            omega
          have := hx.mul hx
          rw [← e] at this
          exact wide_mul (a := 63) (b := 64) (by have : (2 : Nat) ^ 63 = 9223372036854775808 := by decide
                                                 omega) this (by decide) (by decide) (by decide)
        · have f1 := fun a : Int => fm (a := a) (show (0 : Int) < 2305843009213693951 by decide)
          refine ⟨_, rfl, _, _, rfl, rfl, .inl ⟨by decide, by decide⟩, _, _, rfl, rfl, ?_⟩
          refine ⟨_, rfl, _, _, rfl, rfl, n_61, ?_⟩
          refine ⟨_, _, rfl, rfl, pow_sm (f1 _).1 (Int.lt_trans (f1 _).2 (by decide)) (by decide) (by decide), _, _, rfl, rfl, ⟨by decide, by decide, by decide⟩, _, _, rfl, rfl, _, _, rfl, rfl, p18n, _, _, rfl, rfl, ⟨by decide, by decide⟩, _, rfl, _, _, rfl, rfl, hmn, ?_⟩
          exact q _ _ (fm hm0).1 (fm hm0).2 ⟨ds, l, t + 1, b, hr2, hg2, h3, h4, by omega, by omega, h7, h8, h9⟩ hk2
end
end Lw
namespace Lw
open PySem PySem.Spec L2 Lx
theorem scReduced : FnScope ["row", "found", "many", "size_now"] ["row"] (defScope sLReduced) := ⟨rfl, rfl, rfl, by decide +kernel, rfl, by decide +kernel, by decide +kernel⟩
theorem scLUnits : FnScope ["run_now", "b", "a", "many", "j"] ["run_now", "b", "a"] (defScope sLUnits) := ⟨rfl, rfl, rfl, by decide +kernel, rfl, by decide +kernel, by decide +kernel⟩
def spReduced (K : PySem.W.Frag) : Sp := fun vs H Q _ => ∃ l gs, vs = [.ref l] ∧ GsAt K H l gs ∧ gs.length ≤ 1000 ∧ ∀ p H' xs, H p = none → Same H H' → H' p = some (.lst xs) → Prs K H' xs (reduced gs) → Q (.ref p) H'
def spLUnits (K : PySem.W.Frag) : Sp := fun vs H Q _ => ∃ x l r b a n, vs = [x, .int b, .int a] ∧ RnAt K H x l r ∧ RnSm n r ∧ (Fm.keep b a).Ok n ∧ n ≤ 100000 ∧ ∀ H', Same H H' → Q (.int (units r (.keep b a))) H'
structure ReF (mg : Str → Option Value) : Prop where
  len : mg "len" = none
structure UnF (mg : Str → Option Value) : Prop where
  sum : mg "sum" = none
  max : mg "max" = none
section
variable {P : Program} {w : World} {K : PySem.W.Frag} {mg : Str → Option Value} {base : Heap}
theorem ok_reduced {f : Addr} {fd : FuncData} {k : Nat} (F : Fun K "_law_reduced" "_law_reduced" sLReduced f fd) (Z : ReF mg) : FnOk P w K mg base CX0 (k + 1) f fd ["row"] (spReduced K) := by
  refine F.ok scReduced (fun vs H Q E h => ?_) (fun cdv A outer s H vs Q E hr h => ?_)
  · obtain ⟨l, gs, rfl, _⟩ := h
    rfl
  · obtain ⟨l, gs, rfl, ⟨xs, hL, hP⟩, hlen, q⟩ := h
    refine ⟨_, (pss_cons (ps_set (i := 1) scReduced.nd rfl (.inl rfl) (pe_lst pa_nil))
      (pss_cons (ps_for PassesOwn.never rfl (pi_list (pv 0)) (pg_tup (by rfl) (pgs_cons (pg_name (i := 2) scReduced.nd rfl (.inl rfl)) (pgs_cons (pg_name (i := 3) scReduced.nd rfl (.inl rfl)) pgs_nil)))
          (pss_one (ps_if (PW.pt (pw_and (pt_cmpR op_gt (pv 2) pe_int (nomark _)) (pw_and (pt_cmpR op_gt (pe_callB call_len_seq (by rfl) Z.len PySem.boot_len (pa_cons (pv 1) pa_nil)) pe_int (nomark _)) (pw_and1 (pt_cmpR op_eq (pe_ix ix_tup (pe_ix ix_list (pv 1) (pe_un un_neg pe_int) (fun _ _ => rfl)) pe_int (fun _ _ => rfl)) (pv 3) (nomark _))))))
              (pss_one (ps_asg (pe_tup (pa_cons (pe_op op_add (pe_ix ix_tup (pe_ix ix_list (pv 1) (pe_un un_neg pe_int) (fun _ _ => rfl)) pe_int (fun _ _ => rfl)) (pv 2)) (pa_cons (pv 3) pa_nil))) (pg_sub (pv 1) (pe_un un_neg pe_int) set_list)))
              (pss_one (ps_if (pt_cmpR op_gt (pv 2) pe_int (nomark _))
                  (pss_one (ps_expr (pe_bm PySem.F.plainAttrs_list PySem.F.slot_list_append PySem.F.type_list_append mt_append (pv 1) (pa_cons (pe_tup (pa_cons (pv 2) (pa_cons (pv 3) pa_nil))) pa_nil)))) pss_nil)))))
      (pss_one (ps_ret (pv 1))))), ?_⟩
    refine ⟨Nat.zero_le _, fun p np => ?_⟩
    refine ⟨_, rfl, l, rfl, ⟨_, (same_upd (o := .lst []) np).seq hL⟩, ?_⟩
    refine for_it (walk_list (xs := xs)) (fun i σ H' => Same H H' ∧ ∃ y2 y3 zs, σ = [some (.ref l), some (.ref p), y2, y3] ∧ H' p = some (.lst zs) ∧ Prs K H' zs (reduced (gs.take i)) ∧ zs.length ≤ i)
      ⟨same_upd np, none, none, [], rfl, upd_same, .nil, Nat.le_refl _⟩ (fun i σ H' _ hQ => hQ.1.seq hL) ?_ ?_
    · rintro i u σ H1 H2 hi ⟨sm, y2, y3, zs, rfl, hp, hz, hzl⟩ ⟨rfl, hu⟩
      obtain ⟨x, hx, a, rfl, ha'⟩ := hP.get hu
      have ha : SqT K H2 a [.int x.1, .int x.2] := .inl (.inl (sm _ _ ha'))
      have htk := reduced_take hx
      have hxl := hP.len
      have app : ∀ t, H2 t = none → x.1 > 0 → addTo (reduced (gs.take i)) x = reduced (gs.take i) ++ [x] →
          Same H (upd (upd H2 t (.tup [.int x.1, .int x.2])) p (.lst (zs ++ [.ref t]))) ∧ (upd (upd H2 t (.tup [.int x.1, .int x.2])) p (.lst (zs ++ [.ref t]))) p = some (.lst (zs ++ [.ref t])) ∧
          Prs K (upd (upd H2 t (.tup [.int x.1, .int x.2])) p (.lst (zs ++ [.ref t]))) (zs ++ [.ref t]) (reduced (gs.take (i + 1))) ∧ (zs ++ [V.ref t]).length ≤ i + 1 := fun t nt x1 e => by
        have s1 := same_upd (o := .tup [.int x.1, .int x.2]) nt
        refine ⟨Same.own (sm.trans s1) np, upd_same, ?_, by rw [List.length_append]; exact Nat.add_le_add_right hzl 1⟩
        rw [htk, if_pos x1, e]
        exact Prs.lstUpd (s1 _ _ hp) ((hz.same s1).append (.cons ⟨t, rfl, upd_same⟩ .nil))
      refine ⟨a, _, rfl, ha, rfl, _, _, rfl, _, _, rfl, rfl, ?_⟩
      by_cases x1 : x.1 > 0
      · refine ⟨_, rfl, _, _, rfl, rfl, _, rfl, ?_⟩
        rw [decide_eq_true x1]
        refine iteT ⟨_, rfl, p, _, rfl, .inl (.inl (.inl hp)), _, _, rfl, rfl, _, rfl, ?_⟩
        rcases snoc_or (reduced (gs.take i)) with e0 | ⟨as, y, e0⟩
        · have hz0 : zs = [] := by
            have := hz.len
            rw [e0] at this
            exact List.eq_nil_of_length_eq_zero this
          have app' := app
          subst hz0
          refine iteF (iteF ?_)
          refine ⟨_, rfl, _, _, rfl, rfl, _, rfl, ?_⟩
          rw [decide_eq_true x1]
          refine iteT ⟨_, rfl, .inl ⟨rfl, _, .inl (.inl hp)⟩, _, rfl, _, rfl, by show 2 ≤ sizeLine; decide, fun t nt => ?_⟩
          refine ⟨p, [], .ref t, rfl, rfl, same_upd nt _ _ hp, by rw [sizeLine_eq]; decide, ?_⟩
          obtain ⟨r1, r2, r3, r4⟩ := app t nt x1 (by rw [e0]; rfl)
          exact ⟨r1, _, _, _, rfl, r2, r3, r4⟩
        · rw [e0] at hz
          obtain ⟨ws, v, rfl, hw, a2, rfl, ha2'⟩ := Prs.back hz
          have ha2 : SqT K H2 a2 [.int y.1, .int y.2] := .inl (.inl ha2')
          rw [decide_eq_true (show (((ws ++ [V.ref a2]).length : Nat) : Int) > 0 by simp)]
          refine iteT ⟨_, rfl, 1, rfl, p, _, -1, _, rfl, rfl, .inl (.inl hp), atI_last ws (.ref a2), a2, _, 1, _, rfl, rfl, ha2, atI_nat (j := 1) rfl, _, rfl, rfl, _, rfl, ?_⟩
          by_cases ej : y.2 = x.2
          · rw [decide_eq_true (by rw [ej])]
            refine iteT ?_
            refine ⟨_, rfl, 1, rfl, p, _, -1, _, rfl, rfl, .inl (.inl hp), atI_last ws (.ref a2), a2, _, 0, _, rfl, rfl, ha2, atI_nat (j := 0) rfl, _, rfl, _, _, rfl, rfl, _, rfl, by show 2 ≤ sizeLine; decide, fun t nt => ?_⟩
            have s1 := same_upd (o := .tup [.int (y.1 + x.1), .int x.2]) nt
            refine ⟨_, rfl, 1, rfl, p, _, -1, _, rfl, rfl, s1 _ _ hp, ixN_last ws (.ref a2), ?_⟩
            have eset : (ws ++ [V.ref a2]).set ws.length (.ref t) = ws ++ [V.ref t] := by simp
            rw [eset]
            refine ⟨Same.own (sm.trans s1) np, _, _, ws ++ [.ref t], rfl, upd_same, ?_, ?_⟩
            · rw [htk, if_pos x1, e0, addTo_snoc, if_pos ej]
              exact Prs.lstUpd (s1 _ _ hp) ((hw.same s1).append (.cons ⟨t, rfl, upd_same⟩ .nil))
            · simp only [List.length_append, List.length_cons, List.length_nil] at hzl ⊢
              omega
          · rw [decide_eq_false (fun z => ej (V.int.inj z))]
            refine iteF ?_
            refine ⟨_, rfl, _, _, rfl, rfl, _, rfl, ?_⟩
            rw [decide_eq_true x1]
            refine iteT ⟨_, rfl, .inl ⟨rfl, _, .inl (.inl hp)⟩, _, rfl, _, rfl, by show 2 ≤ sizeLine; decide, fun t nt => ?_⟩
            refine ⟨p, _, .ref t, rfl, rfl, same_upd nt _ _ hp, by rw [sizeLine_eq]; simp only [List.length_append, List.length_cons, List.length_nil] at hzl ⊢; have := hP.len; omega, ?_⟩
            obtain ⟨r1, r2, r3, r4⟩ := app t nt x1 (by rw [e0, addTo_snoc, if_neg ej])
            exact ⟨r1, _, _, _, rfl, r2, r3, r4⟩
      · refine ⟨_, rfl, _, _, rfl, rfl, _, rfl, ?_⟩
        rw [decide_eq_false x1]
        refine iteF (iteF ⟨_, rfl, _, _, rfl, rfl, _, rfl, ?_⟩)
        rw [decide_eq_false x1]
        refine iteF ⟨sm, _, _, zs, rfl, hp, ?_, by omega⟩
        rw [htk, if_neg x1]
        exact hz
    · rintro σ H1 ⟨sm, y2, y3, zs, rfl, hp, hz, hzl⟩
      rw [List.take_of_length_le (by rw [← hP.len]; exact Nat.le_refl _)] at hz
      exact ⟨_, rfl, q p H1 zs np sm hp hz⟩
theorem ok_lunits {f : Addr} {fd : FuncData} {k : Nat} (F : Fun K "_law_units" "_law_units" sLUnits f fd) (Z : UnF mg) : FnOk P w K mg base CX0 (k + 1) f fd ["run_now", "b", "a"] (spLUnits K) := by
  refine F.ok scLUnits (fun vs H Q E h => ?_) (fun cdv A outer s H vs Q E hr h => ?_)
  · obtain ⟨x, l, r, b, a, n, rfl, _⟩ := h
    rfl
  · obtain ⟨_, l, r, b, a, n, rfl, ⟨p, rfl, hT, xs, hL, hP⟩, hs, hf, hn, q⟩ := h
    refine ⟨_, (pss_one (ps_ret (pe_op op_add (pe_callB (cr_sum rfl) (by rfl) Z.sum (by decide +kernel) (pa_cons (pe_lc (own := [("many", 3), ("j", 4)]) (g := (gTup K 2 (gCons (gName 3) (gCons (gName 4) gNil)))) (tt := tYes) rfl scLUnits.nd (pi_list (pe_ix ix_tup (pv 0) pe_int (fun _ _ => rfl))) (blkOk_by (own := [("many", 3), ("j", 4)]) (N := ["run_now", "b", "a", "many", "j"]) (sc := defScope sLUnits) (by decide +kernel)) (fun _ _ _ _ _ => (pg_tup (by rfl) (pgs_cons (pg_name (i := 3) scLUnits.nd rfl (.inl rfl)) (pgs_cons (pg_name (i := 4) scLUnits.nd rfl (.inl rfl)) pgs_nil)))) (fun _ _ _ _ _ => pts_nil) (fun _ _ _ _ _ => (pe_op op_mulW (pv 3) (pe_op op_add (pe_op op_add (pe_callB (call_max2 rfl) (by rfl) Z.max (by decide +kernel) (pa_cons pe_int (pa_cons (pe_op op_sub (pv 4) (pv 1)) pa_nil))) (pv 2)) pe_int)))) pa_nil)) (pe_ix ix_tup (pv 0) pe_int (fun _ _ => rfl))))), ?_⟩
    refine ⟨_, rfl, p, _, 0, _, rfl, rfl, hT, atI_nat (j := 0) rfl, l, rfl, ⟨_, hL⟩, fun D nD => ?_⟩
    refine lc_it (walk_list (xs := xs)) (fun i H' => Same H H' ∧ H' D = some (.lst (((r.1.take i).map fun x => x.1 * ((Fm.keep b a).after x.2 + 1)).map V.int))) ⟨same_upd nD, upd_same⟩ (fun i H' _ hQ => hQ.1.seq hL) ?_ ?_
    · rintro i u H1 H2 hi ⟨sm, hD⟩ ⟨rfl, hu⟩
      obtain ⟨x, hx, ap, rfl, ha'⟩ := hP.get hu
      obtain ⟨x1, x2, x3, x4⟩ := hs.1 x (List.mem_of_getElem? hx)
      have hb := Fm.after_ok (hf.mono (Nat.le_succ n)) x2 (x4.mono (Nat.le_succ n))
      have hb2 : Sm (n + 3) ((Fm.keep b a).after x.2 + 1) := hb.2.add (Nat.lt_of_lt_of_le (by decide : (1 : Int).natAbs < 2 ^ 1) (Nat.pow_le_pow_right (by decide) (by omega)))
      refine ⟨ap, _, rfl, .inl (.inl (sm _ _ ha')), rfl, _, _, rfl, _, _, rfl, rfl, rfl, ?_⟩
      refine ⟨_, rfl, _, rfl, _, rfl, _, _, rfl, rfl, _, _, rfl, _, rfl, _, _, rfl, rfl, _, _, rfl, rfl, _, _, rfl, rfl, wide_mul (x3.mono (Nat.le_succ n)) hb2 (by omega) (by omega) (by omega), ?_⟩
      refine ⟨_, hD, ?_, Same.own sm nD, ?_⟩
      · have := hs.2.2.2
        rw [List.length_map, List.length_map, List.length_take, sizeLine_eq]
        omega
      · rw [upd_same, List.take_succ, hx, List.map_append, List.map_append]
        rfl
    · rintro H1 ⟨sm, hD⟩
      rw [List.take_of_length_le (by rw [← hP.len]; exact Nat.le_refl _)] at hD
      refine ⟨D, _, rfl, .inl (.inl hD), _, rfl, p, _, 1, _, rfl, rfl, sameT sm hT, atI_nat (j := 1) rfl, _, _, rfl, rfl, ?_⟩
      rw [sum_mapV]
      exact q _ sm
end
end Lw
namespace Lw
open PySem PySem.Spec L2 Lx
theorem scAfter : FnScope ["run_now", "shape", "units_v", "many", "j"] ["run_now", "shape"] (defScope sLAfter) := ⟨rfl, rfl, rfl, by decide +kernel, rfl, by decide +kernel, by decide +kernel⟩
theorem scRun : FnScope ["bag", "tuples", "most", "wide", "row", "place"] ["bag", "tuples", "most", "wide"] (defScope sLRun) := ⟨rfl, rfl, rfl, by decide +kernel, rfl, by decide +kernel, by decide +kernel⟩
theorem scAny : FnScope ["bag", "far", "b", "a", "k", "c", "place"] ["bag", "far"] (defScope sLAnyWanted) := ⟨rfl, rfl, rfl, by decide +kernel, rfl, by decide +kernel, by decide +kernel⟩
def spLAfter (K : PySem.W.Frag) : Sp := fun vs H Q _ => ∃ x l r y f n, vs = [x, y] ∧ RnAt K H x l r ∧ FmAt K H y f ∧ RnOk n r ∧ f.Ok n ∧ 0 < n ∧ n ≤ 100000 ∧ ∀ v H', Same H H' → NewRn K H H' v (runAfter r f) → Q v H'
abbrev big : Int := 1000000000000000000000000000000
def spRun (K : PySem.W.Frag) : Sp := fun vs H Q _ => ∃ (r gl : Addr) (n tup : Nat) (most wide : Int), vs = [.ref r, .int tup, .int most, .int wide] ∧ BagAt H r gl n ∧ n < 900000000 ∧ tup ≤ 100 ∧ 0 < most ∧ most ≤ big ∧ 0 < wide ∧ wide ≤ big ∧
  ∀ (v : V) (g : List (Int × Int) × Int) (H' : Hp), NewRn K H H' v g → RnOk 111 g → g.1.length ≤ tup → BagAt H' r gl (n + 3 + 2 * tup) → Kb r gl H H' → Q v H'
def spAny : Sp := fun vs H Q _ => ∃ (r gl : Addr) (n : Nat) (far : Int), vs = [.ref r, .int far] ∧ BagAt H r gl n ∧ n < 900000000 ∧ 0 < far ∧ far ≤ big ∧
  ∀ (p : Addr) (f : Fm) (H' : Hp), H p = none → H' p = some (.tup f.vs) → f.Ok 101 → (∀ x ∈ f.nums, x ≤ max far 4) → BagAt H' r gl (n + 9) → Kb r gl H H' → Q (.ref p) H'
structure AfF (mg : Str → Option Value) : Prop where
  max : mg "max" = none
structure RuF (mg : Str → Option Value) : Prop where
  range : mg "range" = none
theorem nm2 {b a y : Int} (h1 : b ≤ y) (h2 : a ≤ y) : ∀ x ∈ (Fm.keep b a).nums, x ≤ y := fun x hx => by
  simp only [Fm.nums, List.mem_cons, List.not_mem_nil, or_false] at hx
  omega
theorem nm3 {b a k y : Int} (h1 : b ≤ y) (h2 : a ≤ y) (h3 : k ≤ y) : ∀ x ∈ (Fm.cr b a k).nums, x ≤ y := fun x hx => by
  simp only [Fm.nums, List.mem_cons, List.not_mem_nil, or_false] at hx
  omega
theorem nm4 {b a k c y : Int} (h1 : b ≤ y) (h2 : a ≤ y) (h3 : k ≤ y) (h4 : c ≤ y) : ∀ x ∈ (Fm.lf b a k c).nums, x ≤ y := fun x hx => by
  simp only [Fm.nums, List.mem_cons, List.not_mem_nil, or_false] at hx
  omega
theorem big_sm {x : Int} (h0 : 0 ≤ x) (h1 : x ≤ big) : Sm 100 x := by
  have : (2 : Nat) ^ 100 = 1267650600228229401496703205376 := by decide +kernel
  have h2 : x ≤ 1000000000000000000000000000000 := h1
  unfold Sm
  omega
theorem big_40 {x : Int} (h0 : 0 < x) (h1 : x ≤ big) : x.natAbs < 2 ^ 4000 := Nat.lt_of_lt_of_le (big_sm (Int.le_of_lt h0) h1) (Nat.pow_le_pow_right (by decide) (by decide))
theorem moved_sm {n : Nat} {r : List (Int × Int) × Int} {f : Fm} (h : RnSm n r) (hf : f.Ok n) : GsSm (n + 1) (moved f r.1) ∧ (moved f r.1).length ≤ 1000 := by
  refine ⟨fun x hx => ?_, by unfold moved; rw [List.length_map]; exact h.2.2.2⟩
  obtain ⟨y, hy, rfl⟩ := List.mem_map.mp hx
  obtain ⟨y1, y2, y3, y4⟩ := h.1 y hy
  have := Fm.after_ok hf y2 y4
  exact ⟨y1, this.1, y3.mono (Nat.le_succ n), this.2⟩
section
variable {P : Program} {w : World} {K : PySem.W.Frag} {mg : Str → Option Value} {base : Heap}
theorem ok_lafter {f aR aN : Addr} {fd dR dN : FuncData} {k : Nat} (F : Fun K "_law_after" "_law_after" sLAfter f fd) (Z : AfF mg)
    (cR : Cl P w K mg base k "_law_reduced" ["row"] (spReduced K) aR dR)
    (cN : Cl P w K mg base k "_law_units" ["run_now", "b", "a"] (spLUnits K) aN dN) : FnOk P w K mg base CX0 (k + 1) f fd ["run_now", "shape"] (spLAfter K) := by
  refine F.ok scAfter (fun vs H Q E h => ?_) (fun cdv A outer s H vs Q E hr h => ?_)
  · obtain ⟨x, l, r, y, f, n, rfl, _⟩ := h
    rfl
  · obtain ⟨_, l, r, _, f, n, rfl, ⟨p, rfl, hT, xs, hL, hP⟩, ⟨yp, rfl, hY⟩, ho, hf, hn0, hn, q⟩ := h
    have hs := RnOk.sm ho
    refine ⟨_, (pss_cons (ps_if (pt_cmpR op_eq (pe_ix ix_tup (pv 1) pe_int (fun _ _ => rfl)) pe_str (nomark _))
          (pss_one (ps_ret (pe_tup (pa_cons (pe_call cR.G hr (by rfl) cR.g cR.kp cR.b .nil pass0 (pa_cons (pe_lc (own := [("many", 3), ("j", 4)]) (g := (gTup K 2 (gCons (gName 3) (gCons (gName 4) gNil)))) (tt := tYes) rfl scAfter.nd (pi_list (pe_ix ix_tup (pv 0) pe_int (fun _ _ => rfl))) (blkOk_by (own := [("many", 3), ("j", 4)]) (N := ["run_now", "shape", "units_v", "many", "j"]) (sc := defScope sLAfter) (by decide +kernel)) (fun _ _ _ _ _ => (pg_tup (by rfl) (pgs_cons (pg_name (i := 3) scAfter.nd rfl (.inl rfl)) (pgs_cons (pg_name (i := 4) scAfter.nd rfl (.inl rfl)) pgs_nil)))) (fun _ _ _ _ _ => pts_nil) (fun _ _ _ _ _ => (pe_tup (pa_cons (pv 3) (pa_cons (pe_op op_add (pe_callB (call_max2 rfl) (by rfl) Z.max (by decide +kernel) (pa_cons pe_int (pa_cons (pe_op op_sub (pv 4) (pe_ix (ix_t (K := K) rfl) (pv 1) pe_int (fun _ _ => rfl))) pa_nil))) (pe_ix (ix_t (K := K) rfl) (pv 1) pe_int (fun _ _ => rfl))) pa_nil))))) pa_nil)) (pa_cons (pe_ix ix_tup (pv 0) pe_int (fun _ _ => rfl)) pa_nil))))) pss_nil)
      (pss_cons (ps_set (i := 2) scAfter.nd rfl (.inl rfl) (pe_call cN.G hr (by rfl) cN.g cN.kp cN.b .nil pass0 (pa_cons (pv 0) (pa_cons (pe_ix ix_tup (pv 1) pe_int (fun _ _ => rfl)) (pa_cons (pe_ix ix_tup (pv 1) pe_int (fun _ _ => rfl)) pa_nil)))))
      (pss_cons (ps_if (pt_cmpR op_eq (pe_ix ix_tup (pv 1) pe_int (fun _ _ => rfl)) pe_str (nomark _))
          (pss_one (ps_ret (pe_tup (pa_cons (pe_call cR.G hr (by rfl) cR.g cR.kp cR.b .nil pass0 (pa_cons (pe_lst (pa_cons (pe_tup (pa_cons (pe_op op_mulW (pv 2) (pe_ix ix_tup (pv 1) pe_int (fun _ _ => rfl))) (pa_cons (pe_ix ix_tup (pv 1) pe_int (fun _ _ => rfl)) pa_nil))) pa_nil)) pa_nil)) (pa_cons pe_int pa_nil))))) pss_nil)
      (pss_one (ps_ret (pe_tup (pa_cons (pe_lst pa_nil) (pa_cons (pe_op op_mulW (pv 2) (pe_ix ix_tup (pv 1) pe_int (fun _ _ => rfl))) pa_nil)))))))), ?_⟩
    refine ⟨_, rfl, yp, _, 0, _, rfl, rfl, hY, atI_nat (j := 0) f.vs0, rfl, _, rfl, ?_⟩
    have hu := units_ok hs hf
    have hfk : (Fm.keep f.b f.a).Ok n := ⟨hf.b0.1, hf.a0.1, hf.b0.2, hf.a0.2⟩
    have huk : units r (.keep f.b f.a) = units r f := by cases f <;> rfl
    by_cases hk : Fm.isKeep f = true
    · have hnm : decide (V.str f.nm = V.str "keep") = true := by
        cases f with
        | keep b a => rfl
        | _ => cases hk
      rw [hnm]
      refine iteT ?_
      refine ⟨_, rfl, p, _, 0, _, rfl, rfl, hT, atI_nat (j := 0) rfl, l, rfl, ⟨_, hL⟩, fun D nD => ?_⟩
      refine lc_it (walk_list (xs := xs)) (fun i H' => Same H H' ∧ ∃ zs, H' D = some (.lst zs) ∧ Prs K H' zs (moved f (r.1.take i))) ⟨same_upd nD, [], upd_same, .nil⟩ (fun i H' _ hQ => hQ.1.seq hL) ?_ ?_
      · rintro i u H1 H2 hi ⟨sm, zs, hD, hz⟩ ⟨rfl, hu⟩
        obtain ⟨x, hx, ap, rfl, ha'⟩ := hP.get hu
        have hY2 := sameT sm hY
        refine ⟨ap, _, rfl, .inl (.inl (sm _ _ ha')), rfl, _, _, rfl, _, _, rfl, rfl, rfl, ?_⟩
        refine ⟨_, rfl, _, rfl, _, rfl, yp, _, 1, _, rfl, rfl, hY2, atI_nat (j := 1) f.vs1, _, _, rfl, rfl, _, _, rfl, _, rfl, yp, _, 2, _, rfl, rfl, hY2, atI_nat (j := 2) f.vs2, _, _, rfl, rfl, by show 2 ≤ sizeLine; decide, fun t nt => ?_⟩
        have s1 := same_upd (o := .tup [.int x.1, .int (f.after x.2)]) nt
        have hzl : zs.length ≤ 1000 := by
          have e1 := hz.len
          have e2 := hs.2.2.2
          unfold moved at e1
          rw [List.length_map, List.length_take] at e1
          omega
        refine ⟨zs, s1 _ _ hD, by rw [sizeLine_eq]; omega, Same.own (sm.trans s1) nD, _, upd_same, ?_⟩
        have e : moved f (r.1.take (i + 1)) = moved f (r.1.take i) ++ [(x.1, f.after x.2)] := by
          unfold moved
          rw [List.take_succ, hx, List.map_append]
          rfl
        rw [e]
        exact Prs.lstUpd (s1 _ _ hD) ((hz.same s1).append (.cons ⟨t, rfl, upd_same⟩ .nil))
      · rintro H1 ⟨sm, zs, hD, hz⟩
        rw [List.take_of_length_le (by rw [← hP.len]; exact Nat.le_refl _)] at hz
        refine ⟨D, _, rfl, ⟨zs, .inl (.inl hD), hz⟩, (moved_sm hs hf).2, fun p2 H2 ws np2 s2 hp2 hw => ?_⟩
        have hpos : ∀ x ∈ moved f r.1, x.1 > 0 := fun x hx => by
          obtain ⟨y, hy, rfl⟩ := List.mem_map.mp hx
          obtain ⟨i, hi⟩ := List.mem_iff_getElem?.mp hy
          have := (ho.gs i y hi).1
          show y.1 > 0
          omega
        rw [reduced_all hpos] at hw
        refine ⟨_, rfl, p, _, 1, _, rfl, rfl, sameT (sm.trans s2) hT, atI_nat (j := 1) rfl, by show 2 ≤ sizeLine; decide, fun t nt => ?_⟩
        have s3 := same_upd (o := .tup [.ref p2, .int r.2]) nt
        cases f with
        | keep b a => exact q _ _ ((sm.trans s2).trans s3) ⟨t, p2, ws, rfl, (sm.trans s2).free nt, sm.free np2, upd_same, s3 _ _ hp2, hw.same s3⟩
        | _ => cases hk
    · have hk' : Fm.isKeep f = false := by simpa using hk
      have hnm : decide (V.str f.nm = V.str "keep") = false := by
        cases f with
        | keep b a => cases hk'
        | _ => rfl
      rw [hnm]
      refine iteF ⟨_, rfl, _, rfl, yp, _, 1, _, rfl, rfl, hY, atI_nat (j := 1) f.vs1, _, rfl, yp, _, 2, _, rfl, rfl, hY, atI_nat (j := 2) f.vs2, ?_⟩
      refine ⟨.ref p, l, r, f.b, f.a, n, rfl, ⟨p, rfl, hT, xs, hL, hP⟩, hs, hfk, hn, fun H1 sm => ?_⟩
      rw [huk]
      refine ⟨_, rfl, yp, _, 0, _, rfl, rfl, sameT sm hY, atI_nat (j := 0) f.vs0, rfl, _, rfl, ?_⟩
      cases f with
      | keep b a => cases hk'
      | cr b a k' =>
        refine iteF ⟨Nat.zero_le _, fun p2 np2 => ?_⟩
        have s3 := same_upd (o := .lst []) np2
        refine ⟨_, rfl, _, rfl, yp, _, 3, _, rfl, rfl, sameT (sm.trans s3) hY, atI_nat (j := 3) rfl, _, _, rfl, rfl, wide_mul hu.2 hf.2.2.2.2.2 (by omega) hn0 (by omega), by show 2 ≤ sizeLine; decide, fun t nt => ?_⟩
        have s4 := same_upd (o := .tup [.ref p2, .int (units r (.cr b a k') * k')]) nt
        refine q _ _ ((sm.trans s3).trans s4) ⟨t, p2, [], rfl, (sm.trans s3).free nt, sm.free np2, ?_, s4 _ _ upd_same, .nil⟩
        refine upd_same.trans ?_
        show some (HO.tup [V.ref p2, V.int (units r (.cr b a k') * k')]) = some (HO.tup [V.ref p2, V.int (k' * units r (.cr b a k'))])
        rw [Int.mul_comm]
      | lf b a k' c =>
        refine iteT ⟨_, rfl, _, rfl, yp, _, 3, _, rfl, rfl, sameT sm hY, atI_nat (j := 3) rfl, _, _, rfl, rfl, wide_mul hu.2 hf.2.2.2.2.2.2.1 (by omega) hn0 (by omega), _, rfl, yp, _, 4, _, rfl, rfl, sameT sm hY, atI_nat (j := 4) rfl, by show 2 ≤ sizeLine; decide, fun g ng => ⟨by show 1 ≤ sizeLine; decide, fun l2 nl2 => ?_⟩⟩
        have s3 := same_upd (o := .tup [.int (units r (.lf b a k' c) * k'), .int c]) ng
        have s4 := same_upd (o := .lst [.ref g]) nl2
        refine ⟨l2, [(units r (.lf b a k' c) * k', c)], rfl, ⟨[.ref g], .inl (.inl upd_same), .cons ⟨g, rfl, s4 _ _ upd_same⟩ .nil⟩, by show 1 ≤ 1000; decide, fun p3 H3 ws np3 s5 hp3 hw => ?_⟩
        refine ⟨by show 2 ≤ sizeLine; decide, fun t nt => ?_⟩
        have s6 := same_upd (o := .tup [.ref p3, .int 0]) nt
        have sA := (sm.trans s3).trans s4
        have e : runAfter r (.lf b a k' c) = (reduced [(units r (.lf b a k' c) * k', c)], 0) := by
          have hp := Int.mul_nonneg hu.1 (Int.le_of_lt hf.2.2.1)
          show (if k' * units r (.lf b a k' c) = 0 then (([] : List (Int × Int)), (0 : Int)) else ([(k' * units r (.lf b a k' c), c)], 0)) = _
          rw [Int.mul_comm] at hp ⊢
          by_cases z : k' * units r (.lf b a k' c) = 0
          · rw [if_pos (by rw [Int.mul_comm]; exact z)]
            unfold reduced
            rw [Int.mul_comm (units r (.lf b a k' c)) k', z]
            rfl
          · rw [if_neg (by rw [Int.mul_comm]; exact z)]
            have hgt : k' * units r (.lf b a k' c) > 0 := by omega
            rw [Int.mul_comm (units r (.lf b a k' c)) k', reduced_all (fun x hx => by rw [List.mem_singleton.mp hx]; exact hgt)]
            rfl
        refine q _ _ ((sA.trans s5).trans s6) ?_
        rw [e]
        exact ⟨t, p3, ws, rfl, (sA.trans s5).free nt, sA.free np3, upd_same, s6 _ _ hp3, hw.same s6⟩
theorem ok_run {f aR aD : Addr} {fd dR dD : FuncData} {k : Nat} (F : Fun K "_law_run" "_law_run" sLRun f fd) (Z : RuF mg)
    (cR : Cl P w K mg base k "_law_reduced" ["row"] (spReduced K) aR dR)
    (cD : Cl P w K mg base k "_law_draw" ["bag", "many"] spDraw aD dD) : FnOk P w K mg base CX0 (k + 1) f fd ["bag", "tuples", "most", "wide"] (spRun K) := by
  refine F.ok scRun (fun vs H Q E h => ?_) (fun cdv A outer s H vs Q E hr h => ?_)
  · obtain ⟨r, gl, n, tup, most, wide, rfl, _⟩ := h
    rfl
  · obtain ⟨r, gl, n, tup, most, wide, rfl, hS, hn, ht, m0, m1, w0, w1, q⟩ := h
    refine ⟨_, (pss_cons (ps_setLc (i := 4) (own := [("place", 5)]) (g := (gName 5)) (tt := tYes) rfl scRun.nd rfl rfl (sw_true rfl rfl rfl (by decide +kernel)) (pi_range1 rfl Z.range (pa_cons (pe_call cD.G hr (by rfl) cD.g cD.kp cD.b .nil pass0 (pa_cons (pv 0) (pa_cons (pe_op op_add (pv 1) pe_int) pa_nil))) pa_nil)) (blkOk_by (own := [("place", 5)]) (N := ["bag", "tuples", "most", "wide", "row", "place"]) (sc := defScope sLRun) (by decide +kernel)) (fun _ _ _ _ _ => (pg_name (i := 5) scRun.nd rfl (.inl rfl))) (fun _ _ _ _ _ => pts_nil) (fun _ _ _ _ _ => (pe_tup (pa_cons (pe_op op_add pe_int (pe_call cD.G hr (by rfl) cD.g cD.kp cD.b .nil pass0 (pa_cons (pv 0) (pa_cons (pv 2) pa_nil)))) (pa_cons (pe_call cD.G hr (by rfl) cD.g cD.kp cD.b .nil pass0 (pa_cons (pv 0) (pa_cons (pv 3) pa_nil))) pa_nil)))))
      (pss_one (ps_ret (pe_tup (pa_cons (pe_call cR.G hr (by rfl) cR.g cR.kp cR.b .nil pass0 (pa_cons (pv 4) pa_nil)) (pa_cons (pe_call cD.G hr (by rfl) cD.g cD.kp cD.b .nil pass0 (pa_cons (pv 0) (pa_cons (pe_ix ix_tup (pe_tup (pa_cons pe_int (pa_cons (pv 3) (pa_cons (pv 2) pa_nil)))) (pe_call cD.G hr (by rfl) cD.g cD.kp cD.b .nil pass0 (pa_cons (pv 0) (pa_cons pe_int pa_nil))) (fun _ _ => rfl)) pa_nil))) pa_nil)))))), ?_⟩
    refine ⟨_, rfl, _, rfl, _, _, rfl, rfl, r, gl, n, (tup : Int) + 1, rfl, hS, by omega, by omega, ?_, fun cnt H1 c0 c1 hS1 k1 => ?_⟩
    · exact Nat.lt_of_lt_of_le (show ((tup : Int) + 1).natAbs < 2 ^ 7 by omega) (Nat.pow_le_pow_right (by decide) (by decide))
    refine ⟨_, rfl, by omega, by omega, fun D nD => ?_⟩
    have hDr := hS1.ne nD
    refine lc_it (walk_range (lo := 0) (n := cnt.toNat)) (fun j H' => ∃ zs gs, H' D = some (.lst zs) ∧ Prs K H' zs gs ∧ gs.length = j ∧ GsSm 100 gs ∧ BagAt H' r gl (n + 1 + 2 * j) ∧ Kb r gl H H') ⟨[], [], upd_same, .nil, rfl, (fun x hx => by cases hx), hS1.own hDr, k1.own ((Kb.free k1 hS1 nD))⟩ (fun _ _ _ _ => trivial) ?_ ?_
    · rintro j u H2 H3 hj ⟨zs, gs, hD, hz, hl, hg, hS2, hk2⟩ ⟨rfl, rfl⟩
      refine ⟨rfl, _, rfl, _, rfl, r, gl, _, most, rfl, hS2, by omega, m0, big_40 m0 m1, fun v H4 v0 v1 hS4 k4 => ⟨_, _, rfl, rfl, _, rfl, _, rfl, r, gl, _, wide, rfl, hS4, by omega, w0, big_40 w0 w1, fun v' H5 v0' v1' hS5 k5 => ?_⟩⟩
      refine ⟨by show 2 ≤ sizeLine; decide, fun t nt => ?_⟩
      have s6 := same_upd (o := .tup [.int (1 + v), .int v']) nt
      have kk := k4.trans k5
      have hD5 := s6 _ _ (kk _ _ hDr.1 hDr.2 hD)
      have hz5 := (Prs.kb hS2 kk hz).same s6
      have hlen := hz.len
      refine ⟨zs, hD5, by rw [sizeLine_eq]; omega, zs ++ [.ref t], gs ++ [(1 + v, v')], upd_same, Prs.lstUpd hD5 (hz5.append (.cons ⟨t, rfl, upd_same⟩ .nil)), by rw [List.length_append, hl]; rfl, fun x hx => ?_, ((hS5.same s6).own hDr).mono (by omega), ((hk2.trans kk).trans (Kb.of s6)).own (Kb.free k1 hS1 nD)⟩
      rcases List.mem_append.mp hx with h | h
      · exact hg x h
      · rw [List.mem_singleton.mp h]
        exact ⟨by show 0 ≤ 1 + v; omega, v0', big_sm (by show 0 ≤ 1 + v; omega) (by show 1 + v ≤ big; omega), big_sm v0' (by show v' ≤ big; omega)⟩
    · rintro H2 ⟨zs, gs, hD, hz, hl, hg, hS2, hk2⟩
      have hgl : gs.length ≤ tup := by omega
      obtain ⟨g1, g2⟩ := reduced_ok hg (by omega)
      refine ⟨_, rfl, D, gs, rfl, ⟨zs, .inl (.inl hD), hz⟩, by omega, fun p H3 xs np s3 hp hx => ?_⟩
      have hS3 := hS2.same s3
      have hpr := hS2.ne np
      refine ⟨_, rfl, _, rfl, _, rfl, by show 3 ≤ sizeLine; decide, fun T nT => ?_⟩
      have s4 := same_upd (o := .tup [.int 1, .int wide, .int most]) nT
      refine ⟨_, rfl, r, gl, _, 3, rfl, hS3.same s4, by omega, by decide, by decide, fun c H5 c0 c1 hS5 k5 => ?_⟩
      have hTr : T ≠ r ∧ T ≠ gl := hS3.ne nT
      have hT5 : H5 T = some (.tup [.int 1, .int wide, .int most]) := k5 _ _ hTr.1 hTr.2 upd_same
      have pick : ∃ x : Int, atI [V.int 1, .int wide, .int most] c = some (.int x) ∧ 0 < x ∧ x ≤ big := by
        have : c = 0 ∨ c = 1 ∨ c = 2 := by omega
        rcases this with rfl | rfl | rfl
        · exact ⟨1, rfl, by decide, by decide⟩
        · exact ⟨wide, rfl, w0, w1⟩
        · exact ⟨most, rfl, m0, m1⟩
      obtain ⟨x, hx', x0, x1⟩ := pick
      refine ⟨T, _, c, _, rfl, rfl, .inl (.inl hT5), hx', r, gl, _, x, rfl, hS5, by omega, x0, big_40 x0 x1, fun rest H6 e0 e1 hS6 k6 => ?_⟩
      have kk := ((Kb.of s4).trans k5).trans k6
      refine ⟨by show 2 ≤ sizeLine; decide, fun t nt => ?_⟩
      have s7 := same_upd (o := .tup [.ref p, .int rest]) nt
      have k06 : Kb r gl H H6 := (hk2.trans (Kb.of s3)).trans kk
      have np0 : H p = none := Kb.free hk2 hS2 np
      exact q _ (reduced gs, rest) _ ⟨t, p, xs, rfl, Kb.free k06 hS6 nt, np0, upd_same, s7 _ _ (kk _ _ hpr.1 hpr.2 hp), (Prs.kb hS3 kk hx).same s7⟩ ⟨g1, ⟨e0, (big_sm e0 (by omega)).mono (by decide)⟩, by show (reduced gs).length ≤ 1000; omega⟩ (by show (reduced gs).length ≤ tup; omega) ((hS6.same s7).mono (by omega)) (k06.trans (Kb.of s7))
theorem ok_any {f aD : Addr} {fd dD : FuncData} {k : Nat} (F : Fun K "_law_any_wanted" "_law_any_wanted" sLAnyWanted f fd) (Z : RuF mg)
    (cD : Cl P w K mg base k "_law_draw" ["bag", "many"] spDraw aD dD) : FnOk P w K mg base CX0 (k + 1) f fd ["bag", "far"] spAny := by
  refine F.ok scAny (fun vs H Q E h => ?_) (fun cdv A outer s H vs Q E hr h => ?_)
  · obtain ⟨r, gl, n, far, rfl, _⟩ := h
    rfl
  · obtain ⟨r, gl, n, far, rfl, hS, hn, f0, f1, q⟩ := h
    refine ⟨_, (pss_cons (ps_asg (pe_lc (own := [("place", 6)]) (g := (gName 6)) (tt := tYes) rfl scAny.nd (pi_range1 rfl Z.range (pa_cons pe_int pa_nil)) (blkOk_by (own := [("place", 6)]) (N := ["bag", "far", "b", "a", "k", "c", "place"]) (sc := defScope sLAnyWanted) (by decide +kernel)) (fun _ _ _ _ _ => (pg_name (i := 6) scAny.nd rfl (.inl rfl))) (fun _ _ _ _ _ => pts_nil) (fun _ _ _ _ _ => (pe_call cD.G hr (by rfl) cD.g cD.kp cD.b .nil pass0 (pa_cons (pv 0) (pa_cons (pe_ix (ix_t (K := K) rfl) (pe_tup (pa_cons pe_int (pa_cons (pv 1) pa_nil))) (pe_op op_fdiv (pe_call cD.G hr (by rfl) cD.g cD.kp cD.b .nil pass0 (pa_cons (pv 0) (pa_cons pe_int pa_nil))) pe_int) (fun _ _ => rfl)) pa_nil))))) (pg_unl (by rfl) (pgs_cons (pg_name (i := 2) scAny.nd rfl (.inl rfl)) (pgs_cons (pg_name (i := 3) scAny.nd rfl (.inl rfl)) (pgs_cons (pg_name (i := 4) scAny.nd rfl (.inl rfl)) (pgs_cons (pg_name (i := 5) scAny.nd rfl (.inl rfl)) pgs_nil))))))
      (pss_one (ps_ret (pe_ix ix_tup (pe_tup (pa_cons (pe_tup (pa_cons pe_str (pa_cons (pv 2) (pa_cons (pv 3) pa_nil)))) (pa_cons (pe_tup (pa_cons pe_str (pa_cons (pv 2) (pa_cons (pv 3) (pa_cons (pe_op op_add (pv 4) pe_int) (pa_cons (pv 5) pa_nil)))))) (pa_cons (pe_tup (pa_cons pe_str (pa_cons (pv 2) (pa_cons (pv 3) (pa_cons (pe_op op_add (pv 4) pe_int) pa_nil))))) pa_nil)))) (pe_call cD.G hr (by rfl) cD.g cD.kp cD.b .nil pass0 (pa_cons (pv 0) (pa_cons pe_int pa_nil))) (fun _ _ => rfl))))), ?_⟩
    refine ⟨4, rfl, by decide, by decide, fun D nD => ?_⟩
    have hDr := hS.ne nD
    refine lc_it (walk_range (lo := 0) (n := 4)) (fun j H' => ∃ ns : List Int, H' D = some (.lst (ns.map V.int)) ∧ ns.length = j ∧ (∀ x ∈ ns, 0 ≤ x ∧ x ≤ big ∧ x < max far 4) ∧ BagAt H' r gl (n + 2 * j) ∧ Kb r gl H H') ⟨[], upd_same, rfl, (fun x hx => by cases hx), hS.own hDr, (Kb.refl r gl H).own nD⟩ (fun _ _ _ _ => trivial) ?_ ?_
    · rintro j u H2 H3 hj ⟨ns, hD, hl, hns, hS2, hk2⟩ ⟨rfl, rfl⟩
      refine ⟨rfl, _, rfl, _, rfl, by show 2 ≤ sizeLine; decide, fun T nT => ?_⟩
      have s4 := same_upd (o := .tup [.int 4, .int far]) nT
      refine ⟨_, rfl, r, gl, _, 3, rfl, hS2.same s4, by omega, by decide, by decide, fun c H5 c0 c1 hS5 k5 => ?_⟩
      have hTr := hS2.ne nT
      have hT5 : H5 T = some (.tup [.int 4, .int far]) := k5 _ _ hTr.1 hTr.2 upd_same
      refine ⟨_, _, rfl, rfl, ⟨by decide, by decide⟩, ?_⟩
      have pick : ∃ x : Int, atI [V.int 4, .int far] (c / 2) = some (.int x) ∧ 0 < x ∧ x ≤ big ∧ x ≤ max far 4 := by
        have : c = 0 ∨ c = 1 ∨ c = 2 := by omega
        rcases this with rfl | rfl | rfl
        · exact ⟨4, rfl, by decide, by decide, by omega⟩
        · exact ⟨4, rfl, by decide, by decide, by omega⟩
        · exact ⟨far, rfl, f0, f1, by omega⟩
      obtain ⟨x, hx', x0, x1, x2⟩ := pick
      refine ⟨T, _, _, _, rfl, rfl, .inl (.inl hT5), hx', r, gl, _, x, rfl, hS5, by omega, x0, big_40 x0 x1, fun v H6 e0 e1 hS6 k6 => ?_⟩
      have kk := ((Kb.of s4).trans k5).trans k6
      have hD6 := kk _ _ hDr.1 hDr.2 hD
      refine ⟨_, hD6, by rw [List.length_map, sizeLine_eq]; omega, ns ++ [v], by rw [upd_same, List.map_append]; rfl, by rw [List.length_append, hl]; rfl, fun y hy => ?_, (hS6.own hDr).mono (by omega), (hk2.trans kk).own nD⟩
      rcases List.mem_append.mp hy with h | h
      · exact hns y h
      · rw [List.mem_singleton.mp h]
        exact ⟨e0, by omega, by omega⟩
    · rintro H2 ⟨ns, hD, hl, hns, hS2, hk2⟩
      match ns, hl with
      | [b, a, kk, c], _ =>
        have hb := hns b (by simp)
        have ha := hns a (by simp)
        have hkk := hns kk (by simp)
        have hc := hns c (by simp)
        refine ⟨D, _, rfl, .inl (.inl hD), rfl, _, _, rfl, _, _, rfl, _, _, rfl, _, _, rfl, rfl, ?_⟩
        refine ⟨_, rfl, _, rfl, by show 3 ≤ sizeLine; decide, fun t1 n1 => ?_⟩
        refine ⟨_, rfl, _, rfl, _, rfl, _, _, rfl, rfl, _, rfl, by show 5 ≤ sizeLine; decide, fun t2 n2 => ?_⟩
        refine ⟨_, rfl, _, rfl, _, rfl, _, _, rfl, rfl, by show 4 ≤ sizeLine; decide, fun t3 n3 => ?_⟩
        refine ⟨by show 3 ≤ sizeLine; decide, fun T nT => ?_⟩
        have s1 := same_upd (o := .tup (Fm.keep b a).vs) n1
        have s2 := same_upd (o := .tup (Fm.lf b a (kk + 1) c).vs) n2
        have s3 := same_upd (o := .tup (Fm.cr b a (kk + 1)).vs) n3
        have s4 := same_upd (o := .tup [.ref t1, .ref t2, .ref t3]) nT
        have sA := ((s1.trans s2).trans s3).trans s4
        refine ⟨_, rfl, r, gl, _, 3, rfl, hS2.same sA, by omega, by decide, by decide, fun v H3 v0 v1 hS3 k3 => ?_⟩
        have hTr : T ≠ r ∧ T ≠ gl := (hS2.same ((s1.trans s2).trans s3)).ne nT
        have hT3 : H3 T = some (.tup [.ref t1, .ref t2, .ref t3]) := k3 _ _ hTr.1 hTr.2 upd_same
        have hSA := hS2.same sA
        have h1 := s4 _ _ (s3 _ _ (s2 _ _ (upd_same : upd H2 t1 (.tup (Fm.keep b a).vs) t1 = _)))
        have h2 := s4 _ _ (s3 _ _ (upd_same : upd (upd H2 t1 (.tup (Fm.keep b a).vs)) t2 (.tup (Fm.lf b a (kk + 1) c).vs) t2 = _))
        have h3 := s4 _ _ (upd_same : upd (upd (upd H2 t1 (.tup (Fm.keep b a).vs)) t2 (.tup (Fm.lf b a (kk + 1) c).vs)) t3 (.tup (Fm.cr b a (kk + 1)).vs) t3 = _)
        have hk3 : Kb r gl H H3 := (hk2.trans (Kb.of sA)).trans k3
        have nD0 : ∀ p, H2 p = none → H p = none := fun p => Kb.free hk2 hS2
        have pick : ∃ (p : Addr) (f : Fm), atI [V.ref t1, .ref t2, .ref t3] v = some (.ref p) ∧ H3 p = some (.tup f.vs) ∧ H p = none ∧ f.Ok 101 ∧ ∀ x ∈ f.nums, x ≤ max far 4 := by
          have : v = 0 ∨ v = 1 ∨ v = 2 := by omega
          have sb := (big_sm hb.1 hb.2.1).mono (by decide : 100 ≤ 101)
          have sa := (big_sm ha.1 ha.2.1).mono (by decide : 100 ≤ 101)
          have sc := (big_sm hc.1 hc.2.1).mono (by decide : 100 ≤ 101)
          have sk : Sm 101 (kk + 1) := (big_sm hkk.1 hkk.2.1).add (Nat.lt_of_lt_of_le (by decide : (1 : Int).natAbs < 2 ^ 1) (Nat.pow_le_pow_right (by decide) (by decide)))
          rcases this with rfl | rfl | rfl
          · exact ⟨t1, .keep b a, rfl, k3 _ _ (hSA.neT h1).1 (hSA.neT h1).2 h1, nD0 _ n1, ⟨hb.1, ha.1, sb, sa⟩, nm2 (by omega) (by omega)⟩
          · exact ⟨t2, .lf b a (kk + 1) c, rfl, k3 _ _ (hSA.neT h2).1 (hSA.neT h2).2 h2, nD0 _ (s1.free n2), ⟨hb.1, ha.1, by omega, hc.1, sb, sa, sk, sc⟩, nm4 (by omega) (by omega) (by omega) (by omega)⟩
          · exact ⟨t3, .cr b a (kk + 1), rfl, k3 _ _ (hSA.neT h3).1 (hSA.neT h3).2 h3, nD0 _ ((s1.trans s2).free n3), ⟨hb.1, ha.1, by omega, sb, sa, sk⟩, nm3 (by omega) (by omega) (by omega)⟩
        obtain ⟨p, f, hp, hpt, hn0, hf, hfx⟩ := pick
        exact ⟨T, _, v, _, rfl, rfl, .inl (.inl hT3), hp, q p f H3 hn0 hpt hf hfx (hS3.mono (by omega)) hk3⟩
end
end Lw
namespace Lx
open PySem PySem.Spec L2 PyProof.Rows
/-! ### sum of a tuple of ints -/
def rSumT (K : PySem.W.Frag) : List V → Hp → VK → Prop := fun vs H Q => ∃ (a : Addr) (ns : List Int), vs = [V.ref a] ∧ SqT K H a (ns.map V.int) ∧ Q (.int ns.sum) H
theorem call_sumT {X : Cx} (hc : X.calm = true) : CallR X (.builtin "sum") (rSumT X.K) := by
  intro pins s σ H vs us Q I r h
  obtain ⟨a, ns, rfl, hs, q⟩ := h
  obtain ⟨its, rv, hl, _⟩ := I.tuple hs
  rw [Vals.ref1 r]
  have hi := rv.ints
  obtain ⟨xs, e⟩ := hi.allInts.items
  have hn : numsOf (intItems xs).toList = ns := by rw [← e]; exact hi.numsOf
  rw [nums_intItems] at hn
  have hl' : s.heap.IsTuple a (intItems xs) := by
    rw [← e]
    obtain ⟨o, h1, h2, n, h3⟩ := hl
    exact ⟨o, h1, h2, n, h3⟩
  refine PySem.W.ktm_sumG (I.ok.hd hc) hl' fun h' tk t' hk => ⟨.int _, H, I.kept hk, ⟨_, rfl⟩, ?_⟩
  rw [preSum_eq, List.take_of_length_le (by simp), hn]
  exact q
/-! ### a method of a tuple that is written where it is called -/
def tTupM (r : V → List V → Hp → VK → Prop) (t0 t : TA) : TE := fun σ H Q => t0 σ H fun ys H1 => ys.length ≤ sizeLine ∧ ∀ p, H1 p = none → t σ (upd H1 p (.tup ys)) fun xs H2 => r (.ref p) xs H2 Q
theorem pe_tupM {X : Cx} {es0 : List Expr} {x1} {tpos : Pos} {e : Expr} {es : List Expr} {t0 t : TA} {name : Str} {apos cpos : Pos} {id : String} {r : V → List V → Hp → VK → Prop} (pa : PlainAttrs "tuple") (slot : Slot "tuple" name id) (hty : typeOf (.builtin id) = pure (.type "method_descriptor")) (hm : MtR X id r) (h0 : PA X es0 t0) (ha : PA X (e :: es) t)
    (hbase : attributeBase (.Tuple es0 x1 tpos) name X.env (eval (.Tuple es0 x1 tpos) X.env) = eval (.Tuple es0 x1 tpos) X.env := by rfl)
    (hfew : ((backTo cpos (starEach (e :: es) X.env)).all (fun x => !x.1) && (backToKw cpos (keywordEach [] X.env)).all (fun x => x.1.isSome)
      && decide ((e :: es).length + ([] : List Keyword).length + (if ([] : List Keyword).isEmpty then 0 else 1) < 30)) = true := by rfl)
    (hline : (apos.endLine == cpos.line) = true := by rfl) (hs : starEach (e :: es) X.env = (false, eval e X.env) :: starEach es X.env := by rfl) (hplain : (backTo cpos (starEach es X.env)).any (·.1) = false := by rfl) :
    PE X (.Call (.Attribute (.Tuple es0 x1 tpos) name apos) (e :: es) [] cpos) (tTupM r t0 t) := by
  refine ⟨fun pins s σ H Q I h => ?_⟩
  refine wpAny_Call_method_late hbase hfew hline rfl ?_
  refine wpAny_Tuple_spliced (thn (h0.run tpos pins s σ H _ I h) fun us s1 ⟨xs, H1, I1, r1, z, q⟩ => ⟨by rw [← r1.length]; exact z, ?_⟩)
  have hf : H1 s1.heap.objs.size = none := I1.hok.fresh (Nat.le_refl _)
  have I2 := I1.laid (a := s1.heap.objs.size) (o := .tup xs) (h' := s1.heap.push { cls := .type "tuple", data := .seq us.toArray }) (t' := s1.toks) (fun b u e => Heap.get?_push_of_some _ e) (Nat.le_refl _) ⟨z, us, r1, ⟨_, Heap.get?_push_size _ rfl, rfl, _, rfl⟩⟩
  have hg : (s1.heap.push { cls := .type "tuple", data := .seq us.toArray }).get? s1.heap.objs.size = some { cls := .type "tuple", data := .seq us.toArray } := Heap.get?_push_size _ rfl
  refine ⟨"tuple", id, pa, slot, hty, ⟨_, hg, rfl⟩, fun a e => ?_, ?_⟩
  · cases e
    exact ⟨_, hg, rfl⟩
  · have hA := ha.run cpos pins _ σ _ _ I2 (q _ hf)
    rw [hs] at hA ⊢
    refine Calls.callWith_builtin (by show (false || (backTo cpos (starEach es X.env)).any (·.1)) = false; rw [hplain] <;> rfl) (Calls.evalArgs_plain ?_)
    exact thn hA fun us2 s2 ⟨vs, H2, I3, r2, q2⟩ => hm pins s2 σ H2 (.ref s1.heap.objs.size) vs (.ref s1.heap.objs.size) us2 Q I3 rfl r2 q2
end Lx
namespace Lw
open PySem PySem.Spec L2 Lx
theorem scChain : FnScope ["bag", "most", "found"] ["bag", "most"] (defScope sLChain) := ⟨rfl, rfl, rfl, by decide +kernel, rfl, by decide +kernel, by decide +kernel⟩
theorem scWanted : FnScope ["chain_now", "kind", "b", "a", "k", "c", "sign"] ["chain_now"] (defScope sLWanted) := ⟨rfl, rfl, rfl, by decide +kernel, rfl, by decide +kernel, by decide +kernel⟩
def spChain : Sp := fun vs H Q _ => ∃ (r gl : Addr) (n m : Nat), vs = [.ref r, .int m] ∧ BagAt H r gl n ∧ n < 900000000 ∧ m ≤ 100 ∧ ∀ x H', ChOk x → x.cps.size ≤ m → BagAt H' r gl (n + 3 * m + 7) → Kb r gl H H' → Q (.str x) H'
structure ChF (mg : Str → Option Value) : Prop where
  len : mg "len" = none
theorem step_at {v : Int} (h0 : 0 ≤ v) (h1 : v < 6) : ∃ i : Int, atI [V.int 0, .int 0, .int 1, .int 1, .int 2, .int 3] v = some (.int i) ∧ 0 ≤ i ∧ i < 4 := by
  have : v = 0 ∨ v = 1 ∨ v = 2 ∨ v = 3 ∨ v = 4 ∨ v = 5 := by omega
  rcases this with rfl | rfl | rfl | rfl | rfl | rfl <;> exact ⟨_, rfl, by decide, by decide⟩
theorem steps_at {i : Int} (h0 : 0 ≤ i) (h1 : i < 4) : ∃ c, atI steps.cps.toList i = some c ∧ c ∈ steps.cps.toList := by
  have : i = 0 ∨ i = 1 ∨ i = 2 ∨ i = 3 := by omega
  rcases this with rfl | rfl | rfl | rfl <;> exact ⟨_, rfl, by decide⟩
theorem app_size (x y : Str) : (x ++ y).cps.size = x.cps.size + y.cps.size := Array.size_append ..
theorem app_list (x y : Str) : (x ++ y).cps.toList = x.cps.toList ++ y.cps.toList := Array.toList_append ..
theorem rep_ch {c : Nat} {k : Nat} {d : Nat} (h : d ∈ (rep (⟨#[c]⟩ : Str) k).cps.toList) : d = c := by
  rw [rep_list] at h
  obtain ⟨l, hl, hdl⟩ := List.mem_flatten.mp h
  obtain ⟨_, rfl⟩ := List.mem_replicate.mp hl
  simpa using hdl
section
variable {P : Program} {w : World} {K : PySem.W.Frag} {mg : Str → Option Value} {base : Heap}
theorem ok_chain {f aD : Addr} {fd dD : FuncData} {k : Nat} (F : Fun K "_law_chain" "_law_chain" sLChain f fd) (Z : ChF mg)
    (cD : Cl P w K mg base k "_law_draw" ["bag", "many"] spDraw aD dD) : FnOk P w K mg base CX0 (k + 1) f fd ["bag", "most"] spChain := by
  refine F.ok scChain (fun vs H Q E h => ?_) (fun cdv A outer s H vs Q E hr h => ?_)
  · obtain ⟨r, gl, n, m, rfl, _⟩ := h
    rfl
  · obtain ⟨r, gl, n, m, rfl, hS, hn, hm, q⟩ := h
    refine ⟨_, (pss_cons (ps_set (i := 2) scChain.nd rfl (.inl rfl) pe_str)
      (pss_cons (ps_while PassesOwn.never (PW.pt (pw_and (pt_cmpR op_lt (pe_callB call_len_str (by rfl) Z.len PySem.boot_len (pa_cons (pv 2) pa_nil)) (pv 1) (nomark _)) (pw_and1 (pt_cmpR op_gt (pe_call cD.G hr (by rfl) cD.g cD.kp cD.b .nil pass0 (pa_cons (pv 0) (pa_cons pe_int pa_nil))) pe_int (nomark _)))))
          (pss_one (ps_set (i := 2) scChain.nd rfl (.inl rfl) (pe_op op_add_str (pv 2) (pe_op op_repS (pe_ix ix_str pe_str (pe_ix ix_tup (pe_tup (pa_cons pe_int (pa_cons pe_int (pa_cons pe_int (pa_cons pe_int (pa_cons pe_int (pa_cons pe_int pa_nil))))))) (pe_call cD.G hr (by rfl) cD.g cD.kp cD.b .nil pass0 (pa_cons (pv 0) (pa_cons pe_int pa_nil))) (fun _ _ => rfl)) (fun _ _ => rfl)) (pe_op op_add pe_int (pe_call cD.G hr (by rfl) cD.g cD.kp cD.b .nil pass0 (pa_cons (pv 0) (pa_cons pe_int pa_nil)))))))))
      (pss_one (ps_ret (pe_slice sl_str (pv 2) po_none (po_some (pv 1))))))), ?_⟩
    refine while_fin (fun σ H1 => ∃ x, σ = [some (.ref r), some (.int m), some (.str x)] ∧ ChOk x ∧ x.cps.size ≤ m + 2 ∧ BagAt H1 r gl (n + 3 * m + 7) ∧ Kb r gl H H1) (fun R hR => ?_) (fun σ H1 hF => ?_)
    · refine ⟨fun mm σ H1 => ∃ x, σ = [some (.ref r), some (.int m), some (.str x)] ∧ mm = m + 2 - x.cps.size ∧ ChOk x ∧ x.cps.size ≤ m + 2 ∧ BagAt H1 r gl (n + 3 * x.cps.size) ∧ Kb r gl H H1, ⟨_, "", rfl, rfl, by unfold ChOk; decide, by show 0 ≤ m + 2; omega, hS, Kb.refl r gl H⟩, ?_⟩
      rintro mm σ H1 ⟨x, rfl, rfl, hx, hxl, hS1, hk1⟩
      refine ⟨_, rfl, x, rfl, by show x.cps.size ≤ sizeLine; rw [sizeLine_eq]; omega, _, rfl, _, _, rfl, rfl, _, rfl, ?_⟩
      by_cases c : (x.length : Int) < (m : Int)
      · rw [decide_eq_true c]
        have hlt : x.cps.size < m := by
          have : x.length = x.cps.size := rfl
          omega
        refine iteT ⟨_, rfl, r, gl, _, 8, rfl, hS1, by omega, by decide, by decide, fun d H2 d0 d1 hS2 k2 => ?_⟩
        refine ⟨_, _, rfl, rfl, _, rfl, ite2 (fun c2 => ?_) (fun c2 => ?_)⟩
        · refine ⟨fun σ' H' => ∃ x', σ' = [some (.ref r), some (.int m), some (.str x')] ∧ x.cps.size < x'.cps.size ∧ ChOk x' ∧ x'.cps.size ≤ m + 2 ∧ BagAt H' r gl (n + 3 * x'.cps.size) ∧ Kb r gl H H', fun σ' H' ⟨x', e, hlt', rest⟩ => ⟨m + 2 - x'.cps.size, by omega, x', e, rfl, rest⟩, ?_⟩
          refine ⟨_, rfl, by show 6 ≤ sizeLine; decide, fun T nT => ?_⟩
          have s3 := same_upd (o := .tup [.int 0, .int 0, .int 1, .int 1, .int 2, .int 3]) nT
          refine ⟨_, rfl, r, gl, _, 6, rfl, hS2.same s3, by omega, by decide, by decide, fun v H4 v0 v1 hS4 k4 => ?_⟩
          have hTr := hS2.ne nT
          have hT4 : H4 T = some (.tup [.int 0, .int 0, .int 1, .int 1, .int 2, .int 3]) := k4 _ _ hTr.1 hTr.2 upd_same
          obtain ⟨i, hi, i0, i1⟩ := step_at v0 v1
          obtain ⟨ch, hch, hcm⟩ := steps_at i0 i1
          refine ⟨T, _, v, _, rfl, rfl, .inl (.inl hT4), hi, _, _, ch, rfl, rfl, by show 4 ≤ sizeLine; decide, hch, ?_⟩
          refine ⟨_, rfl, r, gl, _, 3, rfl, hS4, by omega, by decide, by decide, fun u H5 u0 u1 hS5 k5 => ?_⟩
          have hrl : (rep (⟨#[ch]⟩ : Str) (1 + u).toNat).cps.size = 1 * (1 + u).toNat := rep_len _ _
          refine ⟨_, _, rfl, rfl, _, _, rfl, rfl, by omega, by omega, by show 1 * (1 + u).toNat ≤ sizeLine; rw [sizeLine_eq]; omega, _, _, rfl, rfl, by show x.cps.size + (rep (⟨#[ch]⟩ : Str) (1 + u).toNat).cps.size ≤ sizeLine; rw [hrl, sizeLine_eq]; omega, ?_⟩
          have hsz : (x ++ rep (⟨#[ch]⟩ : Str) (1 + u).toNat).cps.size = x.cps.size + (1 + u).toNat := by rw [app_size, hrl, Nat.one_mul]
          refine ⟨_, rfl, by rw [hsz]; omega, fun d hd => ?_, by rw [hsz]; omega, hS5.mono (by rw [hsz]; omega), ((hk1.trans k2).trans (Kb.of s3)).trans (k4.trans k5)⟩
          rw [app_list] at hd
          rcases List.mem_append.mp hd with h | h
          · exact hx d h
          · rw [rep_ch h]
            exact hcm
        · exact hR _ _ ⟨x, rfl, hx, hxl, hS2.mono (by omega), hk1.trans k2⟩
      · rw [decide_eq_false c]
        exact iteF (hR _ _ ⟨x, rfl, hx, hxl, hS1.mono (by omega), hk1⟩)
    · obtain ⟨x, rfl, hx, hxl, hS1, hk1⟩ := hF
      refine ⟨_, rfl, _, rfl, (m : Int), rfl, x, rfl, by show x.cps.size ≤ sizeLine; rw [sizeLine_eq]; omega, ?_⟩
      refine q _ _ (fun d hd => ?_) ?_ hS1 hk1
      · have hd' : d ∈ ((x.cps.toList.drop (HT.sIx x.length 0 none)).take (HT.sIx x.length x.length (some (m : Int)) - HT.sIx x.length 0 none)) := by simpa [cutS] using hd
        exact hx d (List.mem_of_mem_drop (List.mem_of_mem_take hd'))
      · show (((x.cps.toList.drop (HT.sIx x.length 0 none)).take (HT.sIx x.length x.length (some (m : Int)) - HT.sIx x.length 0 none)).toArray).size ≤ m
        rw [HT.sIx_none, HT.sIx_nat, List.size_toArray, List.length_take]
        omega
def spWanted : Sp := fun vs H Q _ => ∃ (x : Str), vs = [.str x] ∧ x.cps.size ≤ 60 ∧ ∀ (p : Addr) (f : Fm) (H' : Hp), Same H H' → H p = none → H' p = some (.tup f.vs) → f.Ok 400 → Q (.ref p) H'
structure WaF (mg : Str → Option Value) : Prop where
  int : mg "int" = none
  max : mg "max" = none
def WI (i : Nat) (kd : Str) (b a k c : Int) : Prop := (kd = "keep" ∨ kd = "lf" ∨ kd = "cr") ∧ 0 ≤ b ∧ b ≤ i ∧ 0 ≤ a ∧ a ≤ i ∧ 0 < k ∧ Sm (6 * i + 1) k ∧ 0 ≤ c ∧ c ≤ i
theorem pick2 {s1 s2 : Str} {b : Bool} : atI [V.str s1, .str s2] (if b = true then (1 : Int) else 0) = some (.str (if b = true then s2 else s1)) := by cases b <;> rfl
theorem pick2i {i j : Int} {b : Bool} : atI [V.int i, .int j] (if b = true then (1 : Int) else 0) = some (.int (if b = true then j else i)) := by cases b <;> rfl
theorem ok_wanted {f : Addr} {fd : FuncData} {k : Nat} (F : Fun K "_law_wanted" "_law_wanted" sLWanted f fd) (Z : WaF mg) : FnOk P w K mg base CX0 (k + 1) f fd ["chain_now"] spWanted := by
  refine F.ok scWanted (fun vs H Q E h => ?_) (fun cdv A outer s H vs Q E hr h => ?_)
  · obtain ⟨x, rfl, _⟩ := h
    rfl
  · obtain ⟨x, rfl, hxl, q⟩ := h
    refine ⟨_, (pss_cons (ps_asg (pe_tup (pa_cons pe_str (pa_cons pe_int (pa_cons pe_int (pa_cons pe_int (pa_cons pe_int pa_nil)))))) (pg_tup (by rfl) (pgs_cons (pg_name (i := 1) scWanted.nd rfl (.inl rfl)) (pgs_cons (pg_name (i := 2) scWanted.nd rfl (.inl rfl)) (pgs_cons (pg_name (i := 3) scWanted.nd rfl (.inl rfl)) (pgs_cons (pg_name (i := 4) scWanted.nd rfl (.inl rfl)) (pgs_cons (pg_name (i := 5) scWanted.nd rfl (.inl rfl)) pgs_nil)))))))
      (pss_cons (ps_for PassesOwn.never rfl (pi_str (pv 0)) (pg_name (i := 6) scWanted.nd rfl (.inl rfl))
          (pss_one (ps_if (PW.pt (pw_and (pt_cmpR op_eq (pv 1) pe_str (nomark _)) (pw_and1 (pt_cmpR op_eq (pv 6) pe_str (nomark _)))))
              (pss_one (ps_aug (i := 3) scWanted.nd rfl (.inl rfl) pe_int ip_add))
              (pss_one (ps_if (PW.pt (pw_and (pt_cmpR op_eq (pv 1) pe_str (nomark _)) (pw_and1 (pt_cmpR op_eq (pv 6) pe_str (nomark _)))))
                  (pss_one (ps_par (i := 2) (j := 3) rfl scWanted.nd rfl rfl (by decide) rfl rfl (pa_cons (pe_op op_add (pv 2) (pe_callTy call_int1 (by rfl) Z.int (by decide +kernel) (pa_cons (pe_cmpR op_eq (pv 3) pe_int (nomark _)) pa_nil))) (pa_cons (pe_callB (call_max2 rfl) (by rfl) Z.max (by decide +kernel) (pa_cons pe_int (pa_cons (pe_op op_sub (pv 3) pe_int) pa_nil))) pa_nil)) rfl))
                  (pss_one (ps_if (pt_cmpR op_eq (pv 1) pe_str (nomark _))
                      (pss_one (ps_set (i := 1) scWanted.nd rfl (.inl rfl) (pe_ix ix_tup (pe_tup (pa_cons pe_str (pa_cons pe_str pa_nil))) (pe_callTy call_int1 (by rfl) Z.int (by decide +kernel) (pa_cons (pe_cmpR op_eq (pv 6) pe_str (nomark _)) pa_nil)) (fun _ _ => rfl))))
                      (pss_one (ps_if (PW.pt (pw_and (pt_cmpR op_eq (pv 1) pe_str (nomark _)) (pw_and1 (pt_cmpR op_in_sign (pv 6) pe_str (by with_unfolding_all rfl)))))
                          (pss_one (ps_set (i := 5) scWanted.nd rfl (.inl rfl) (pe_callB (call_max2 rfl) (by rfl) Z.max (by decide +kernel) (pa_cons pe_int (pa_cons (pe_op op_add (pv 5) (pe_ix ix_tup (pe_tup (pa_cons pe_int (pa_cons (pe_un un_neg pe_int) pa_nil))) (pe_callTy call_int1 (by rfl) Z.int (by decide +kernel) (pa_cons (pe_cmpR op_eq (pv 6) pe_str (nomark _)) pa_nil)) (fun _ _ => rfl))) pa_nil)))))
                          (pss_one (ps_if (pt_cmpR op_eq (pv 1) pe_str (nomark _))
                              (pss_one (ps_par3 (i := 1) (j := 4) (l := 5) rfl scWanted.nd rfl rfl rfl (by decide) (by decide) (by decide) rfl rfl rfl (pa_cons (pe_ix ix_tup (pe_tup (pa_cons pe_str (pa_cons pe_str pa_nil))) (pe_callTy call_int1 (by rfl) Z.int (by decide +kernel) (pa_cons (pe_cmpR op_eq (pv 6) pe_str (nomark _)) pa_nil)) (fun _ _ => rfl)) (pa_cons (pe_op op_mulW (pv 4) (pe_op op_add (pv 5) pe_int)) (pa_cons pe_int pa_nil))) rfl))
                              (pss_one (ps_if (pt_cmpR op_eq (pv 6) pe_str (nomark _))
                                  (pss_one (ps_asg (pe_tup (pa_cons pe_str (pa_cons pe_int pa_nil))) (pg_tup (by rfl) (pgs_cons (pg_name (i := 1) scWanted.nd rfl (.inl rfl)) (pgs_cons (pg_name (i := 5) scWanted.nd rfl (.inl rfl)) pgs_nil))))) pss_nil)))))))))))))
      (pss_one (ps_ret (pe_ix ix_tup (pe_tup (pa_cons (pe_tup (pa_cons pe_str (pa_cons (pv 2) (pa_cons (pv 3) pa_nil)))) (pa_cons (pe_tup (pa_cons pe_str (pa_cons (pv 2) (pa_cons (pv 3) (pa_cons (pv 4) (pa_cons (pv 5) pa_nil)))))) (pa_cons (pe_tup (pa_cons pe_str (pa_cons (pv 2) (pa_cons (pv 3) (pa_cons (pv 4) pa_nil))))) pa_nil)))) (pe_tupM PySem.F.plainAttrs_tuple PySem.F.slot_tuple_index PySem.F.type_tuple_index mt_tup_index (pa_cons pe_str (pa_cons pe_str (pa_cons pe_str pa_nil))) (pa_cons (pv 1) pa_nil)) (fun _ _ => rfl)))))), ?_⟩
    refine ⟨by show 5 ≤ sizeLine; decide, fun t0 n0 => ?_⟩
    have s0 := same_upd (o := .tup [.str "keep", .int 0, .int 0, .int 1, .int 0]) n0
    refine ⟨t0, _, rfl, .inl (.inl upd_same), rfl, _, _, rfl, _, _, rfl, _, _, rfl, _, _, rfl, _, _, rfl, rfl, ?_⟩
    refine ⟨_, rfl, x, rfl, ?_⟩
    refine for_it walk_str (fun i σ H' => Same H H' ∧ ∃ kd b a kk c y6, σ = [some (.str x), some (.str kd), some (.int b), some (.int a), some (.int kk), some (.int c), y6] ∧ WI i kd b a kk c)
      ⟨s0, "keep", 0, 0, 1, 0, none, rfl, .inl rfl, by decide, by decide, by decide, by decide, by decide, by unfold Sm; decide, by decide, by decide⟩ (fun _ _ _ _ _ => trivial) ?_ ?_
    · rintro i u σ H1 H2 hi ⟨sm, kd, b, a, kk, c, y6, rfl, hkd, b0, b1, a0, a1, k0, k1, c0, c1⟩ ⟨rfl, ch, hch, rfl⟩
      have ku := sms_up k1
      rcases hkd with rfl | rfl | rfl
      · refine ⟨_, rfl, rfl, _, rfl, iteT ⟨_, rfl, rfl, _, rfl, ite2 (fun e => ?_) (fun e => ?_)⟩⟩
        · exact ⟨_, rfl, _, _, rfl, rfl, sm, _, _, _, _, _, _, rfl, .inl rfl, b0, by omega, by show 0 ≤ a + 1; omega, by show a + 1 ≤ ((i + 1 : Nat) : Int); omega, k0, ku, c0, by omega⟩
        · refine ⟨_, rfl, rfl, _, rfl, iteT ⟨_, rfl, rfl, _, rfl, ite2 (fun e => ?_) (fun e => ?_)⟩⟩
          · refine ⟨_, rfl, _, rfl, rfl, .inr ⟨_, rfl, _, _, rfl, rfl, _, rfl, _, _, rfl, rfl, _, _, rfl, _, _, rfl, sm, _, _, _, _, _, _, rfl, .inl rfl, ?_, ?_, ?_, ?_, k0, ku, c0, by omega⟩⟩
            · split <;> omega
            · split <;> omega
            · split <;> omega
            · split <;> omega
          · refine ⟨_, rfl, rfl, _, rfl, iteT ⟨by show 2 ≤ sizeLine; decide, fun T nT => ⟨_, rfl, rfl, .inr ⟨_, rfl, T, _, _, _, rfl, rfl, .inl (.inl upd_same), pick2, ?_⟩⟩⟩⟩
            refine ⟨sm.trans (same_upd nT), _, _, _, _, _, _, rfl, ?_, b0, by omega, a0, by omega, k0, ku, c0, by omega⟩
            split
            · exact .inr (.inr rfl)
            · exact .inr (.inl rfl)
      · refine ⟨_, rfl, rfl, _, rfl, iteF (iteF ⟨_, rfl, rfl, _, rfl, iteF (iteF ⟨_, rfl, rfl, _, rfl, iteF ?_⟩)⟩)⟩
        refine ⟨_, rfl, rfl, _, rfl, iteT ⟨_, rfl, ch, "UD", rfl, rfl, _, rfl, ite2 (fun e => ?_) (fun e => ?_)⟩⟩
        · refine ⟨_, rfl, 1, rfl, by show 2 ≤ sizeLine; decide, fun T nT => ⟨_, rfl, rfl, .inr ⟨_, rfl, T, _, _, _, rfl, rfl, .inl (.inl upd_same), pick2i, _, _, rfl, rfl, _, _, rfl, ?_⟩⟩⟩
          refine ⟨sm.trans (same_upd nT), _, _, _, _, _, _, rfl, .inr (.inl rfl), b0, by omega, a0, by omega, k0, ku, ?_, ?_⟩
          · split <;> split <;> omega
          · split <;> split <;> omega
        · refine ⟨_, rfl, rfl, _, rfl, iteT ⟨by show 2 ≤ sizeLine; decide, fun T nT => ⟨_, rfl, rfl, .inr ⟨_, rfl, T, _, _, _, rfl, rfl, .inl (.inl upd_same), pick2, ?_⟩⟩⟩⟩
          have hc6 : (c + 1).natAbs < 2 ^ 6 := by
            have : (2 : Nat) ^ 6 = 64 := by decide
            have : i < 60 := by omega
            omega
          refine ⟨_, rfl, _, rfl, _, _, rfl, rfl, _, _, rfl, rfl, wide_mul k1 hc6 (by omega) (by decide) (by omega), _, _, _, rfl, ?_⟩
          refine ⟨sm.trans (same_upd nT), _, _, _, _, _, _, rfl, ?_, b0, by omega, a0, by omega, Int.mul_pos k0 (by omega), (k1.mul (show Sm 6 (c + 1) from hc6)).mono (by omega), by decide, by omega⟩
          split
          · exact .inr (.inr rfl)
          · exact .inr (.inl rfl)
      · refine ⟨_, rfl, rfl, _, rfl, iteF (iteF ⟨_, rfl, rfl, _, rfl, iteF (iteF ⟨_, rfl, rfl, _, rfl, iteF ?_⟩)⟩)⟩
        refine ⟨_, rfl, rfl, _, rfl, iteF (iteF ⟨_, rfl, rfl, _, rfl, iteF ?_⟩)⟩
        refine ⟨_, rfl, rfl, _, rfl, ite2 (fun e => ?_) (fun e => ?_)⟩
        · refine ⟨by show 2 ≤ sizeLine; decide, fun T nT => ⟨T, _, rfl, .inl (.inl upd_same), rfl, _, _, rfl, _, _, rfl, rfl, ?_⟩⟩
          exact ⟨sm.trans (same_upd nT), _, _, _, _, _, _, rfl, .inr (.inl rfl), b0, by omega, a0, by omega, k0, ku, by decide, by omega⟩
        · exact ⟨sm, _, _, _, _, _, _, rfl, .inr (.inr rfl), b0, by omega, a0, by omega, k0, ku, c0, by omega⟩
    · rintro σ H1 ⟨sm, kd, b, a, kk, c, y6, rfl, hkd, b0, b1, a0, a1, k0, k1, c0, c1⟩
      refine ⟨_, rfl, _, rfl, by show 3 ≤ sizeLine; decide, fun t1 n1 => ?_⟩
      refine ⟨_, rfl, _, rfl, _, rfl, _, rfl, by show 5 ≤ sizeLine; decide, fun t2 n2 => ?_⟩
      refine ⟨_, rfl, _, rfl, _, rfl, by show 4 ≤ sizeLine; decide, fun t3 n3 => ?_⟩
      refine ⟨by show 3 ≤ sizeLine; decide, fun T nT => ?_⟩
      refine ⟨by show 3 ≤ sizeLine; decide, fun T2 nT2 => ?_⟩
      have s1 := same_upd (o := .tup (Fm.keep b a).vs) n1
      have s2 := same_upd (o := .tup (Fm.lf b a kk c).vs) n2
      have s3 := same_upd (o := .tup (Fm.cr b a kk).vs) n3
      have s4 := same_upd (o := .tup [.ref t1, .ref t2, .ref t3]) nT
      have s5 := same_upd (o := .tup [.str "keep", .str "lf", .str "cr"]) nT2
      have h1 := s5 _ _ (s4 _ _ (s3 _ _ (s2 _ _ (upd_same : upd H1 t1 (.tup (Fm.keep b a).vs) t1 = _))))
      have h2 := s5 _ _ (s4 _ _ (s3 _ _ (upd_same : upd (upd H1 t1 (.tup (Fm.keep b a).vs)) t2 (.tup (Fm.lf b a kk c).vs) t2 = _)))
      have h3 := s5 _ _ (s4 _ _ (upd_same : upd (upd (upd H1 t1 (.tup (Fm.keep b a).vs)) t2 (.tup (Fm.lf b a kk c).vs)) t3 (.tup (Fm.cr b a kk).vs) t3 = _))
      have hT := s5 _ _ (upd_same : upd (upd (upd (upd H1 t1 (.tup (Fm.keep b a).vs)) t2 (.tup (Fm.lf b a kk c).vs)) t3 (.tup (Fm.cr b a kk).vs)) T (.tup [.ref t1, .ref t2, .ref t3]) T = _)
      have sA := (((s1.trans s2).trans s3).trans s4).trans s5
      have sb : Sm 400 b := (sms_le (L := 60) b0 (by omega)).mono (by decide)
      have sa : Sm 400 a := (sms_le (L := 60) a0 (by omega)).mono (by decide)
      have sc : Sm 400 c := (sms_le (L := 60) c0 (by omega)).mono (by decide)
      have sk : Sm 400 kk := k1.mono (by omega)
      have n10 : H t1 = none := sm.free n1
      have n20 : H t2 = none := (sm.trans s1).free n2
      have n30 : H t3 = none := ((sm.trans s1).trans s2).free n3
      refine ⟨_, rfl, ?_⟩
      rcases hkd with rfl | rfl | rfl
      · refine ⟨T2, ["keep", "lf", "cr"], "keep", 0, rfl, rfl, .inl (.inl upd_same), rfl, fun m hm => absurd hm (by omega), ?_⟩
        exact ⟨T, _, _, _, rfl, rfl, .inl (.inl hT), atI_nat (j := 0) rfl, q t1 (.keep b a) _ (sm.trans sA) n10 h1 ⟨b0, a0, sb, sa⟩⟩
      · refine ⟨T2, ["keep", "lf", "cr"], "lf", 1, rfl, rfl, .inl (.inl upd_same), rfl, fun m hm => ?_, ?_⟩
        · have : m = 0 := by omega
          subst this
          decide
        · exact ⟨T, _, _, _, rfl, rfl, .inl (.inl hT), atI_nat (j := 1) rfl, q t2 (.lf b a kk c) _ (sm.trans sA) n20 h2 ⟨b0, a0, k0, c0, sb, sa, sk, sc⟩⟩
      · refine ⟨T2, ["keep", "lf", "cr"], "cr", 2, rfl, rfl, .inl (.inl upd_same), rfl, fun m hm => ?_, ?_⟩
        · have : m = 0 ∨ m = 1 := by omega
          rcases this with rfl | rfl <;> decide
        · exact ⟨T, _, _, _, rfl, rfl, .inl (.inl hT), atI_nat (j := 2) rfl, q t3 (.cr b a kk) _ (sm.trans sA) n30 h3 ⟨b0, a0, k0, sb, sa, sk⟩⟩
end
end Lw
namespace Lw
open PySem PySem.Spec L2 Lx
theorem scByd : FnScope ["chain_now", "many", "depot", "place"] ["chain_now", "many"] (defScope sLByDepot) := ⟨rfl, rfl, rfl, by decide +kernel, rfl, by decide +kernel, by decide +kernel⟩
structure ByF (mg : Str → Option Value) : Prop where
  range : mg "range" = none
def spByd (K : PySem.W.Frag) : Sp := fun vs H Q _ => ∃ (x : Str) (n : Nat), vs = [.str x, .int (n : Int)] ∧ ChOk x ∧ x.cps.size * n ≤ 6000 ∧ n ≤ 1000 ∧ x.cps.size ≤ 1000 ∧ ∀ v H', Same H H' → FmAt K H' v (formOf (rep x n)) → Q v H'
theorem ch_rep {x : Str} (hx : ChOk x) (n : Nat) : ChOk (rep x n) := fun c hc => by
  rw [rep_list] at hc
  obtain ⟨l, hl, hd⟩ := List.mem_flatten.mp hc
  rw [(List.mem_replicate.mp hl).2] at hd
  exact hx c hd
theorem chok_nil : ChOk "" := fun c hc => by
  have : c ∈ ([] : List Nat) := hc
  cases this
theorem rep_snoc (x : Str) (n : Nat) : rep x n ++ x = rep x (n + 1) := by
  have e : ∀ {y z : Str}, y.cps.toList = z.cps.toList → y = z := fun {y z} h => by
    cases y; cases z
    exact congrArg Str.mk (Array.ext' h)
  apply e
  rw [app_list, rep_list, rep_list, List.replicate_succ', List.flatten_append]
  simp
theorem formOf_rep {x : Str} (hx : ChOk x) (hl : x.cps.size ≤ 7000) : ∀ n, x.cps.size * n ≤ 7000 → formOf (rep x n) = fp (formOf x) n
  | 0, _ => by
    have : rep x 0 = "" := by
      unfold rep
      simp
      rfl
    rw [this]
    rfl
  | n + 1, h => by
    have hle : x.cps.size * (n + 1) = x.cps.size * n + x.cps.size := Nat.mul_succ ..
    have hs : (rep x n).cps.size = x.cps.size * n := rep_len _ _
    rw [← rep_snoc, formOf_app (ch_rep hx n) hx (by omega), formOf_rep hx hl n (by omega)]
    rfl
theorem fp_few {m : Nat} {f : Fm} (h : f.Ok m) (hm : 0 < m) (hm2 : m ≤ 101) {n : Nat} (o : n ≤ 29) : (fp f n).Ok 6200 := by
  cases f with
  | keep b a =>
    obtain ⟨b0, a0, sb, sa⟩ := h
    obtain ⟨B, A, e, h1, h2, h3, h4⟩ := fp_keep b0 a0 n
    have sn : Sm 101 (n : Int) := by
      unfold Sm
      have : (29 : Nat) < 2 ^ 101 := by decide +kernel
      omega
    rw [e]
    exact ⟨h1, h3, (Sm.of_le h1 h2 (sn.mul sb)).mono (by omega), (Sm.of_le h3 h4 (sn.mul sa)).mono (by omega)⟩
  | lf b a k c =>
    cases n with
    | zero => exact nothing_ok _
    | succ n =>
      obtain ⟨K, e, K0, K1⟩ := fp_lf h hm n
      obtain ⟨b0, a0, k0, c0, sb, sa, sk, sc⟩ := h
      rw [e]
      have : (n + 1) * (2 * m + 2) ≤ 29 * 204 := Nat.mul_le_mul (by omega) (by omega)
      exact ⟨b0, a0, K0, c0, sb.mono (by omega), sa.mono (by omega), K1.mono (by omega), sc.mono (by omega)⟩
  | cr b a k =>
    cases n with
    | zero => exact nothing_ok _
    | succ n =>
      obtain ⟨K, e, K0, K1⟩ := fp_cr h hm n
      obtain ⟨b0, a0, k0, sb, sa, sk⟩ := h
      rw [e]
      have : (n + 1) * (2 * m + 2) ≤ 29 * 204 := Nat.mul_le_mul (by omega) (by omega)
      exact ⟨b0, a0, K0, sb.mono (by omega), sa.mono (by omega), K1.mono (by omega)⟩
section
variable {P : Program} {w : World} {K : PySem.W.Frag} {mg : Str → Option Value} {base : Heap}
theorem ok_byd {f C fI fC fF : Addr} {fd dI dC' dF : FuncData} {k : Nat} (F : Fun K "_law_by_depot" "_law_by_depot" sLByDepot f fd) (Z : ByF mg) (T : DTxt K mg C) (Mk : Mk K C fI)
    (GI : FnOk P w K mg base CX0 k fI dI ["self", "name"] (spDInit K C)) (bI : Binds K dI ["self", "name"] [])
    (mC : Meth K C "copy" fC) (GC : FnOk P w K mg base CX0 (k + 1) fC dC' ["self", "source", "name", "chain"] (spDCopy K C)) (bC : Binds K dC' ["self", "source", "name", "chain"] [])
    (mF : Meth K C "form_of" fF) (GF : FnOk P w K mg base CX0 (k + 1) fF dF ["self", "name"] (spDForm K C)) (bF : Binds K dF ["self", "name"] []) : FnOk P w K mg base CX0 (k + 2) f fd ["chain_now", "many"] (spByd K) := by
  refine F.ok scByd (fun vs H Q E h => ?_) (fun cdv A outer s H vs Q E hr h => ?_)
  · obtain ⟨x, n, rfl, _⟩ := h
    rfl
  · obtain ⟨x, n, rfl, hx, hl, hn, hl1, q⟩ := h
    have hr1 := hr
    refine ⟨_, (pss_cons (ps_set (i := 2) scByd.nd rfl (.inl rfl) (pe_make Mk GI hr1 (by rfl) T.mgC bI .nil pass0 (pa_cons pe_str pa_nil)))
      (pss_cons (ps_expr (pe_meth (pv 2) T.cl mC GC hr bC .nil pass0 (pa_cons pe_str (pa_cons pe_str (pa_cons pe_str pa_nil)))))
      (pss_cons (ps_for PassesOwn.never rfl (pi_range1 rfl Z.range (pa_cons (pv 1) pa_nil)) (pg_name (i := 3) scByd.nd rfl (.inl rfl))
          (pss_one (ps_expr (pe_meth (pv 2) T.cl mC GC hr bC .nil pass0 (pa_cons pe_str (pa_cons pe_str (pa_cons (pv 0) pa_nil)))))))
      (pss_one (ps_ret (pe_meth (pv 2) T.cl mF GF hr bF .nil pass0 (pa_cons pe_str pa_nil))))))), ?_⟩
    intro p dx np ndx nex
    refine ⟨p, dx, _, rfl, upd_same, fun d H1 fd0 D0 kp => ⟨rfl, ?_⟩⟩
    have s0 : Same H (upd (upd H dx (.own p)) p (.ins C dx [])) := fun b o e => by
      rw [upd_ne (ne_of_none e np), upd_ne (ne_of_none e ndx)]
      exact e
    have s1 : Same H H1 := fun b o e => kp b o (s0 b o e) (ne_of_none e np)
    have nd0 : H d = none := s0.free fd0
    obtain ⟨dx1, h1⟩ := D0.ob
    refine ⟨_, rfl, p, dx1, _, rfl, h1, by rfl, p, d, [("main", "")], "main", "file", "", "", rfl, D0, by decide, rfl, chok_nil, chok_nil, by decide, fun H2 D2 kd2 => ?_⟩
    have kd0 : ∀ {H'}, Kd d H1 H' → Same H H' := fun k b o e => k b o (ne_of_none e nd0) (s1 b o e)
    have e0 : putZ [((("main" : Str), ("" : Str)))] "file" (("" : Str) ++ "") = [(("main" : Str), ("" : Str)), ("file", rep x 0)] := by
      rw [show rep x 0 = ("" : Str) from by unfold rep; simp; rfl]
      rfl
    rw [e0] at D2
    refine ⟨_, rfl, (n : Int), rfl, by omega, by omega, ?_⟩
    refine for_range (lo := 0) (n := ((n : Int) - 0).toNat) (fun j σ H' => ∃ y3, σ = [some (.str x), some (.int (n : Int)), some (.ref p), y3] ∧ DepAt K C H' p d [(("main" : Str), ("" : Str)), ("file", rep x j)] ∧ Kd d H1 H') ⟨none, rfl, D2, kd2⟩ ?_ ?_
    · rintro j σ H3 hj ⟨y3, rfl, D3, kd3⟩
      obtain ⟨dx3, h3⟩ := D3.ob
      have hs : (rep x j).cps.size = x.cps.size * j := rep_len _ _
      have hj2 : x.cps.size * j ≤ x.cps.size * n := Nat.mul_le_mul (Nat.le_refl _) (by omega)
      refine ⟨_, rfl, p, dx3, _, rfl, h3, by rfl, _, rfl, p, d, _, "file", "file", x, rep x j, rfl, D3, by show 2 < 10000; decide, rfl, ch_rep hx j, hx, by omega, fun H4 D4 kd4 => ?_⟩
      have e1 : putZ [((("main" : Str), ("" : Str))), (("file" : Str), rep x j)] "file" (rep x j ++ x) = [(("main" : Str), ("" : Str)), ("file", rep x (j + 1))] := by
        rw [rep_snoc]
        rfl
      rw [e1] at D4
      exact ⟨_, rfl, D4, kd3.trans kd4⟩
    · rintro σ H3 ⟨y3, rfl, D3, kd3⟩
      obtain ⟨dx3, h3⟩ := D3.ob
      refine ⟨_, rfl, p, dx3, _, rfl, h3, by rfl, p, d, _, "file", rep x n, rfl, D3, rfl, fun v hv => ?_⟩
      exact q v _ (kd0 kd3) hv
end
end Lw
namespace Lw
open PySem PySem.Spec L2 Lx
theorem scLaw : FnScope ["script", "bag", "turn", "chain_now", "many", "due", "shape", "one", "two", "whole", "run_now", "result", "place"] ["script"] (defScope sLaw) := ⟨rfl, rfl, rfl, by decide +kernel, rfl, by decide +kernel, by decide +kernel⟩
structure LwF (mg : Str → Option Value) : Prop where
  range : mg "range" = none
  min : mg "min" = none
  len : mg "len" = none
def spLaw (K : PySem.W.Frag) : Sp := fun vs H Q _ => ∃ (a : Addr) (ns : List Int), vs = [.ref a] ∧ SqL K H a (ns.map V.int) ∧ ns.length ≤ 63 ∧ ∀ H', Q (.bl true) H'
section
variable {P : Program} {w : World} {K : PySem.W.Frag} {mg : Str → Option Value} {base : Heap}
theorem ok_law {f aB aD aC aH aW aT aA aO aN aY : Addr} {fd dB dD dC dH dW dT dA dO dN dY : FuncData} {k : Nat} (F : Fun K "law" "law" sLaw f fd) (Z : LwF mg)
    (cB : Cl P w K mg base k "_law_bag" ["script"] (spBag K) aB dB)
    (cD : Cl P w K mg base k "_law_draw" ["bag", "many"] spDraw aD dD)
    (cC : Cl P w K mg base k "_law_chain" ["bag", "most"] spChain aC dC)
    (cH : Cl P w K mg base k "form" ["chain"] (spFoc K) aH dH)
    (cW : Cl P w K mg base k "powered" ["wanted", "times"] (spPowered K) aW dW) (kcW : KBinds K dW ["wanted", "times"] ["times", "wanted"] (g21 Value) (g21 V))
    (cD2 : Cl P w K mg base k "_law_by_depot" ["chain_now", "many"] (spByd K) aT dT)
    (cA : Cl P w K mg base k "_law_any_wanted" ["bag", "far"] spAny aA dA)
    (cO : Cl P w K mg base k "joined" ["first", "second"] (spJoined K) aO dO)
    (cN : Cl P w K mg base k "_law_run" ["bag", "tuples", "most", "wide"] (spRun K) aN dN)
    (cY : Cl P w K mg base k "apply_form" ["run", "wanted"] (spApply K) aY dY) : FnOk P w K mg base CX0 (k + 1) f fd ["script"] (spLaw K) := by
  refine F.ok scLaw (fun vs H Q E h => ?_) (fun cdv A outer s H vs Q E hr h => ?_)
  · obtain ⟨a, ns, rfl, _⟩ := h
    rfl
  · obtain ⟨a, ns, rfl, hS, hlen, q⟩ := h
    refine ⟨_, (pss_cons (ps_set (i := 1) scLaw.nd rfl (.inl rfl) (pe_call cB.G hr (by rfl) cB.g cB.kp cB.b .nil pass0 (pa_cons (pv 0) pa_nil)))
      (pss_cons (ps_for PassesOwn.never rfl (pi_range1 rfl Z.range (pa_cons (pe_op op_add pe_int (pe_callB (call_min2 rfl) (by rfl) Z.min (by decide +kernel) (pa_cons pe_int (pa_cons (pe_callB call_len_seq (by rfl) Z.len PySem.boot_len (pa_cons (pv 0) pa_nil)) pa_nil)))) pa_nil)) (pg_name (i := 2) scLaw.nd rfl (.inl rfl))
          (pss_cons (ps_par (i := 3) (j := 4) rfl scLaw.nd rfl rfl (by decide) rfl rfl (pa_cons (pe_call cC.G hr (by rfl) cC.g cC.kp cC.b .nil pass0 (pa_cons (pv 1) (pa_cons pe_int pa_nil))) (pa_cons (pe_call cD.G hr (by rfl) cD.g cD.kp cD.b .nil pass0 (pa_cons (pv 1) (pa_cons pe_int pa_nil))) pa_nil)) rfl)
          (pss_cons (ps_set (i := 5) scLaw.nd rfl (.inl rfl) (pe_call cH.G hr (by rfl) cH.g cH.kp cH.b .nil pass0 (pa_cons (pe_op op_repS (pv 3) (pv 4)) pa_nil)))
          (pss_cons (ps_if (PW.pt (pw_or (pt_cmpR (op_neD hr.units) (pe_call cW.G hr (by rfl) cW.g cW.kp cW.b .nil pass0 (pa_cons (pe_call cH.G hr (by rfl) cH.g cH.kp cH.b .nil pass0 (pa_cons (pv 3) pa_nil)) (pa_cons (pv 4) pa_nil))) (pv 5) (nomark _)) (pw_or1 (pt_cmpR (op_neD hr.units) (pe_call cD2.G hr (by rfl) cD2.g cD2.kp cD2.b .nil pass0 (pa_cons (pv 3) (pa_cons (pv 4) pa_nil))) (pv 5) (nomark _)))))
              (pss_one (ps_ret pe_bl)) pss_nil)
          (pss_cons (ps_par3 (i := 6) (j := 7) (l := 8) rfl scLaw.nd rfl rfl rfl (by decide) (by decide) (by decide) rfl rfl rfl (pa_cons (pe_call cA.G hr (by rfl) cA.g cA.kp cA.b .nil pass0 (pa_cons (pv 1) (pa_cons (pe_ix ix_tup (pe_tup (pa_cons pe_int (pa_cons (pe_op op_pow pe_int pe_int) pa_nil))) (pe_call cD.G hr (by rfl) cD.g cD.kp cD.b .nil pass0 (pa_cons (pv 1) (pa_cons pe_int pa_nil))) (fun _ _ => rfl)) pa_nil))) (pa_cons (pe_call cD.G hr (by rfl) cD.g cD.kp cD.b .nil pass0 (pa_cons (pv 1) (pa_cons pe_int pa_nil))) (pa_cons (pe_call cD.G hr (by rfl) cD.g cD.kp cD.b .nil pass0 (pa_cons (pv 1) (pa_cons pe_int pa_nil))) pa_nil))) rfl)
          (pss_cons (ps_set (i := 9) scLaw.nd rfl (.inl rfl) (pe_call cW.G hr (by rfl) cW.g cW.kp cW.b .nil pass0 (pa_cons (pv 6) (pa_cons (pe_op op_add (pv 7) (pv 8)) pa_nil))))
          (pss_cons (ps_if (pt_cmpR (op_neD hr.units) (pe_call cO.G hr (by rfl) cO.g cO.kp cO.b .nil pass0 (pa_cons (pe_call cW.G hr (by rfl) cW.g cW.kp cW.b .nil pass0 (pa_cons (pv 6) (pa_cons (pv 7) pa_nil))) (pa_cons (pe_call cW.G hr (by rfl) cW.g cW.kp cW.b .nil pass0 (pa_cons (pv 6) (pa_cons (pv 8) pa_nil))) pa_nil))) (pv 9) (nomark _))
              (pss_one (ps_ret pe_bl)) pss_nil)
          (pss_cons (ps_if (pt_cmpR (op_neD hr.units) (pe_callK0 cW.G hr (by rfl) cW.g cW.kp kcW pass0 (pk_cons (pe_op op_add (pv 7) (pv 8)) (pk_cons (pv 6) pk_nil))) (pv 9) (nomark _))
              (pss_one (ps_ret pe_bl)) pss_nil)
          (pss_cons (ps_set (i := 10) scLaw.nd rfl (.inl rfl) (pe_call cN.G hr (by rfl) cN.g cN.kp cN.b .nil pass0 (pa_cons (pv 1) (pa_cons pe_int (pa_cons (pe_ix ix_tup (pe_tup (pa_cons pe_int (pa_cons (pe_op op_pow pe_int pe_int) pa_nil))) (pe_call cD.G hr (by rfl) cD.g cD.kp cD.b .nil pass0 (pa_cons (pv 1) (pa_cons pe_int pa_nil))) (fun _ _ => rfl)) (pa_cons (pe_ix ix_tup (pe_tup (pa_cons pe_int (pa_cons (pe_op op_pow pe_int pe_int) pa_nil))) (pe_call cD.G hr (by rfl) cD.g cD.kp cD.b .nil pass0 (pa_cons (pv 1) (pa_cons pe_int pa_nil))) (fun _ _ => rfl)) pa_nil))))))
          (pss_cons (ps_set (i := 11) scLaw.nd rfl (.inl rfl) (pv 10))
          (pss_cons (ps_for PassesOwn.never rfl (pi_range1 rfl Z.range (pa_cons (pv 7) pa_nil)) (pg_name (i := 12) scLaw.nd rfl (.inl rfl))
              (pss_one (ps_set (i := 11) scLaw.nd rfl (.inl rfl) (pe_call cY.G hr (by rfl) cY.g cY.kp cY.b .nil pass0 (pa_cons (pv 11) (pa_cons (pv 6) pa_nil))))))
          (pss_one (ps_if (pt_cmpR (op_neD hr.units) (pe_call cY.G hr (by rfl) cY.g cY.kp cY.b .nil pass0 (pa_cons (pv 10) (pa_cons (pe_call cW.G hr (by rfl) cW.g cW.kp cW.b .nil pass0 (pa_cons (pv 6) (pa_cons (pv 7) pa_nil))) pa_nil))) (pv 11) (nomark _))
              (pss_one (ps_ret pe_bl)) pss_nil)))))))))))))
      (pss_one (ps_ret pe_bl)))), ?_⟩
    refine ⟨.ref a, rfl, a, ns, rfl, hS, hlen, fun H1 r gl sm nr ngl hR => ?_⟩
    refine ⟨.ref a, rfl, a, _, rfl, .inl (sm.seq hS), 8, _, rfl, _, _, rfl, rfl, _, rfl, ?_, ?_, ?_⟩
    · split <;> omega
    · split <;> omega
    have hb : (4 + (if ((ns.map V.int).length : Int) < 8 then ((ns.map V.int).length : Int) else 8)).toNat ≤ 12 := by split <;> omega
    generalize (4 + (if ((ns.map V.int).length : Int) < 8 then ((ns.map V.int).length : Int) else 8)).toNat = laps at hb
    refine for_range (lo := 0) (n := laps) (fun i σ H' => ∃ y2 y3 y4 y5 y6 y7 y8 y9 y10 y11 y12, σ = [some (.ref a), some (.ref r), y2, y3, y4, y5, y6, y7, y8, y9, y10, y11, y12] ∧ BagAt H' r gl (1000 * i)) ⟨none, none, none, none, none, none, none, none, none, none, none, rfl, hR⟩ ?_ ?_
    · rintro i σ H2 hi ⟨y2, y3, y4, y5, y6, y7, y8, y9, y10, y11, y12, rfl, hR2⟩
      have hN : 1000 * i ≤ 30000 := by omega
      have goalN : ∀ m, m ≤ 1000 * i + 1000 → m ≤ 1000 * (i + 1) := fun m h => by omega
      generalize 1000 * i = N at hR2 hN goalN
      refine ⟨_, rfl, r, gl, _, 6, rfl, hR2, by omega, by decide, fun x H3 hx hxl hR3 k3 => ?_⟩
      refine ⟨_, rfl, r, gl, _, 11, rfl, hR3, by omega, by decide, by decide, fun m H4 m0 m1 hR4 k4 => ?_⟩
      obtain ⟨m, rfl⟩ := Int.eq_ofNat_of_zero_le m0
      refine ⟨_, _, rfl, ?_⟩
      have hm : x.cps.size * m ≤ 6 * 10 := Nat.mul_le_mul hxl (by omega)
      have hml : (rep x m).cps.size = x.cps.size * m := rep_len _ _
      replace hR4 : BagAt H4 r gl (N + 40) := hR4.mono (by omega)
      clear k3 k4 hR3 hR2
      dsimp only [gName, tNext, tSeq]
      refine ⟨_, rfl, _, rfl, x, (m : Int), rfl, rfl, by omega, by omega, by rw [Int.toNat_natCast, sizeLine_eq]; show x.cps.size * m ≤ _; omega, ?_⟩
      refine ⟨rep x m, rfl, ch_rep hx m, by omega, fun due H5 s5 hdue _ => ?_⟩
      have xo : (formOf x).Ok 101 := (formOf_fle hx (by omega)).ok.mono (by omega)
      have ox : Often (formOf x) m := .inl (by omega)
      dsimp only [gName, tNext, tSeq]
      refine if_by false (fun H1 => Same H5 H1) (fun J hJ => ?_) (fun H6 s6 => ?_)
      · refine ⟨_, rfl, x, rfl, hx, by omega, fun v H6 s6 hv _ => ?_⟩
        refine ⟨_, rfl, v, formOf x, m, 101, rfl, hv, xo, by decide, by decide, ox, fun v2 H7 s7 hv2 => ?_⟩
        rw [← formOf_rep hx (by omega) m (by omega)] at hv2
        have s67 := s6.trans s7
        refine ⟨_, rfl, fdt _, fdt _, fm_dp hv2, fm_dp (hdue.same s67), fdt_shaped _, fdt_shaped _, _, rfl, ?_⟩
        rw [fdt_self]
        refine iteF ⟨_, rfl, _, rfl, x, m, rfl, hx, by omega, by omega, by omega, fun v3 H8 s8 hv3 => ?_⟩
        refine ⟨_, rfl, fdt _, fdt _, fm_dp hv3, fm_dp (hdue.same (s67.trans s8)), fdt_shaped _, fdt_shaped _, _, rfl, ?_⟩
        rw [fdt_self]
        exact hJ _ (s67.trans s8)
      refine iteF ?_
      replace hR4 : BagAt H6 r gl (N + 40) := hR4.same (s5.trans s6)
      clear hdue s5 s6 hx hxl xo ox hm hml
      have pick : ∀ (z : Int) (c : Int), 0 < z → z ≤ big → 0 ≤ c → c < 2 → ∃ x : Int, atI [V.int 3, .int z] c = some (.int x) ∧ 0 < x ∧ x ≤ big := fun z c z0 z1 h0 h1 => by
        have : c = 0 ∨ c = 1 := by omega
        rcases this with rfl | rfl
        · exact ⟨3, rfl, by decide, by decide +kernel⟩
        · exact ⟨z, rfl, z0, z1⟩
      dsimp only [gName, tNext, tSeq]
      refine ⟨_, rfl, _, _, rfl, rfl, ⟨by decide, by decide, by decide⟩, by show 2 ≤ sizeLine; decide, fun T1 nT1 => ?_⟩
      have s1 := same_upd (o := .tup [.int 3, .int (10 ^ Int.toNat 14)]) nT1
      refine ⟨_, rfl, r, gl, _, 2, rfl, hR4.same s1, by omega, by decide, by decide, fun c1 H7 c10 c11 hR7 k7 => ?_⟩
      have hT1 := hR4.ne nT1
      have hT7 : H7 T1 = some (.tup [.int 3, .int (10 ^ Int.toNat 14)]) := k7 _ _ hT1.1 hT1.2 upd_same
      obtain ⟨far, hfar, fa0, fa1⟩ := pick (10 ^ Int.toNat 14) c1 (by decide +kernel) (by decide +kernel) c10 c11
      refine ⟨T1, _, c1, _, rfl, rfl, .inl (.inl hT7), hfar, r, gl, _, far, rfl, hR7, by omega, fa0, fa1, fun ps fm H8 np hps hfm hfx hR8 k8 => ?_⟩
      replace hR8 : BagAt H8 r gl (N + 60) := hR8.mono (by omega)
      clear hR7 k7 hT7 hT1 hR4 hfx hfar fa0 fa1 nT1 s1
      refine ⟨_, rfl, r, gl, _, 16, rfl, hR8, by omega, by decide, by decide, fun one H9 o0 o1 hR9 k9 => ?_⟩
      refine ⟨_, rfl, r, gl, _, 15, rfl, hR9, by omega, by decide, by decide, fun two H10 t0 t1 hR10 k10 => ?_⟩
      obtain ⟨one, rfl⟩ := Int.eq_ofNat_of_zero_le o0
      obtain ⟨two, rfl⟩ := Int.eq_ofNat_of_zero_le t0
      have hps10 : H10 ps = some (.tup fm.vs) := k10 _ _ (hR9.neT (k9 _ _ (hR8.neT hps).1 (hR8.neT hps).2 hps)).1 (hR9.neT (k9 _ _ (hR8.neT hps).1 (hR8.neT hps).2 hps)).2 (k9 _ _ (hR8.neT hps).1 (hR8.neT hps).2 hps)
      replace hR10 : BagAt H10 r gl (N + 70) := hR10.mono (by omega)
      clear hps hR8 hR9 k8 k9 k10
      refine ⟨_, _, _, rfl, ?_⟩
      have hO1 : Often fm one := .inl (by omega)
      have hO2 : Often fm two := .inl (by omega)
      have hO3 : Often fm (one + two) := .inl (by omega)
      have hY : ∀ H', Same H10 H' → FmAt K H' (.ref ps) fm := fun H' s => ⟨ps, rfl, .inl (.inl (s _ _ hps10))⟩
      dsimp only [gName, tNext, tSeq]
      refine ⟨_, rfl, _, rfl, _, rfl, _, _, rfl, rfl, ?_⟩
      refine ⟨.ref ps, fm, one + two, 101, rfl, hY _ (Same.refl _), hfm, by decide, by decide, hO3, fun wh H11 s11 hwh => ?_⟩
      dsimp only [gName, tNext, tSeq]
      refine if_by false (fun H1 => Same H11 H1) (fun J hJ => ?_) (fun H12 s12 => ?_)
      · refine ⟨_, rfl, _, rfl, .ref ps, fm, one, 101, rfl, hY _ s11, hfm, by decide, by decide, hO1, fun v1 H12 s12 hv1 => ?_⟩
        refine ⟨_, rfl, _, rfl, .ref ps, fm, two, 101, rfl, hY _ (s11.trans s12), hfm, by decide, by decide, hO2, fun v2 H13 s13 hv2 => ?_⟩
        refine ⟨v1, v2, _, _, 6200, rfl, hv1.same s13, hv2, fp_few hfm (by decide) (by decide) (by omega), fp_few hfm (by decide) (by decide) (by omega), by decide, fun v3 H14 s14 hv3 => ?_⟩
        rw [fp_add hfm] at hv3
        refine ⟨_, rfl, fdt _, fdt _, fm_dp hv3, fm_dp (hwh.same ((s12.trans s13).trans s14)), fdt_shaped _, fdt_shaped _, _, rfl, ?_⟩
        rw [fdt_self]
        exact hJ _ ((s12.trans s13).trans s14)
      refine iteF ?_
      dsimp only [gName, tNext, tSeq]
      refine if_by false (fun H1 => Same H12 H1) (fun J hJ => ?_) (fun H13 s13 => ?_)
      · refine ⟨_, rfl, _, rfl, _, _, rfl, rfl, _, rfl, ?_⟩
        refine ⟨.ref ps, fm, one + two, 101, rfl, hY _ (s11.trans s12), hfm, by decide, by decide, hO3, fun v3 H14 s14 hv3 => ?_⟩
        refine ⟨_, rfl, fdt _, fdt _, fm_dp hv3, fm_dp (hwh.same (s12.trans s14)), fdt_shaped _, fdt_shaped _, _, rfl, ?_⟩
        rw [fdt_self]
        exact hJ _ s14
      refine iteF ?_
      have sA := (s11.trans s12).trans s13
      replace hps10 := sA _ _ hps10
      replace hR10 := hR10.same sA
      clear hY hwh s11 s12 s13 sA
      dsimp only [gName, tNext, tSeq]
      refine ⟨_, rfl, _, _, rfl, rfl, ⟨by decide, by decide, by decide⟩, by show 2 ≤ sizeLine; decide, fun T1 nT1 => ?_⟩
      have s1 := same_upd (o := .tup [.int 3, .int (10 ^ Int.toNat 9)]) nT1
      refine ⟨_, rfl, r, gl, _, 2, rfl, hR10.same s1, by omega, by decide, by decide, fun c1 H14 c10 c11 hR14 k14 => ?_⟩
      have hT1 := hR10.ne nT1
      have hT14 : H14 T1 = some (.tup [.int 3, .int (10 ^ Int.toNat 9)]) := k14 _ _ hT1.1 hT1.2 upd_same
      have hps14 := k14 _ _ (hR10.neT hps10).1 (hR10.neT hps10).2 (s1 _ _ hps10)
      obtain ⟨most, hmost, mo0, mo1⟩ := pick (10 ^ Int.toNat 9) c1 (by decide +kernel) (by decide +kernel) c10 c11
      refine ⟨T1, _, c1, _, rfl, rfl, .inl (.inl hT14), hmost, _, _, rfl, rfl, ⟨by decide, by decide, by decide⟩, by show 2 ≤ sizeLine; decide, fun T2 nT2 => ?_⟩
      have s2 := same_upd (o := .tup [.int 3, .int (10 ^ Int.toNat 9)]) nT2
      refine ⟨_, rfl, r, gl, _, 2, rfl, hR14.same s2, by omega, by decide, by decide, fun c2 H15 c20 c21 hR15 k15 => ?_⟩
      have hT2 := hR14.ne nT2
      have hT15 : H15 T2 = some (.tup [.int 3, .int (10 ^ Int.toNat 9)]) := k15 _ _ hT2.1 hT2.2 upd_same
      have hps15 := k15 _ _ (hR14.neT hps14).1 (hR14.neT hps14).2 (s2 _ _ hps14)
      obtain ⟨wide, hwide, wi0, wi1⟩ := pick (10 ^ Int.toNat 9) c2 (by decide +kernel) (by decide +kernel) c20 c21
      refine ⟨T2, _, c2, _, rfl, rfl, .inl (.inl hT15), hwide, r, gl, _, 4, most, wide, rfl, hR15, by omega, by omega, mo0, mo1, wi0, wi1, fun x0 g H16 hnew hgo hgl hR16 k16 => ?_⟩
      have hps16 := k16 _ _ (hR15.neT hps15).1 (hR15.neT hps15).2 hps15
      replace hR16 : BagAt H16 r gl (N + 90) := hR16.mono (by omega)
      obtain ⟨l0, nl0, hx0⟩ := hnew.s
      clear hR14 hR15 k14 k15 k16 hps14 hps15 hT14 hT15 hT1 hT2 s1 s2 nT1 nT2 hmost hwide hnew hps10 hR10
      have hY : ∀ H', Same H16 H' → FmAt K H' (.ref ps) fm := fun H' s => ⟨ps, rfl, .inl (.inl (s _ _ hps16))⟩
      dsimp only [gName, tNext, tSeq]
      refine ⟨_, rfl, ?_⟩
      dsimp only [gName, tNext, tSeq]
      refine ⟨_, rfl, (one : Int), rfl, by omega, by omega, ?_⟩
      have bnd : ∀ j, j ≤ 29 → RnOk 18640 (runAfter g (fp fm j)) := fun j hj => runAfter_ok (n := 6200) (hgo.mono (by decide)) (fp_few hfm (by decide) (by decide) hj)
      refine for_range (lo := 0) (n := ((one : Int) - 0).toNat) (fun j σ H' => ∃ v l y12, σ = [some (.ref a), some (.ref r), some (.int (0 + (i : Int))), some (.str x), some (.int (m : Int)), some due, some (.ref ps), some (.int (one : Int)), some (.int (two : Int)), some wh, some x0, some v, y12] ∧ RnS K H' v l (runAfter g (fp fm j)) ∧ Same H16 H') ⟨x0, l0, _, rfl, ?_, Same.refl _⟩ ?_ ?_
      · show RnS K H16 x0 l0 (runAfter g nothing)
        rw [runAfter_nothing hgo]
        exact hx0
      · rintro j σ H17 hj ⟨v, l, y12, rfl, hv, s17⟩
        refine ⟨_, rfl, _, rfl, v, l, _, .ref ps, fm, 18640, rfl, hv.rn, hY _ s17, bnd j (by omega), hfm.mono (by decide), by decide, by decide, fun v2 H18 s18 hv2 => ?_⟩
        obtain ⟨l2, nl2, hx2⟩ := hv2.s
        rw [runAfter_both] at hx2
        exact ⟨v2, l2, _, rfl, hx2, s17.trans s18⟩
      · rintro σ H17 ⟨v, l, y12, rfl, hv, s17⟩
        have e1 : ((one : Int) - 0).toNat = one := by omega
        rw [e1] at hv
        refine ⟨_, rfl, _, rfl, _, rfl, .ref ps, fm, one, 101, rfl, hY _ s17, hfm, by decide, by decide, hO1, fun pw H18 s18 hpw => ?_⟩
        refine ⟨x0, l0, g, pw, fp fm one, 6200, rfl, (hx0.same (s17.trans s18)).rn, hpw, hgo.mono (by decide), fp_few hfm (by decide) (by decide) (by omega), by decide, by decide, fun v3 H19 s19 hv3 => ?_⟩
        obtain ⟨l3, nl3, hx3⟩ := hv3.s
        refine ⟨_, rfl, rd _, rd _, hx3.dq.dp, (hv.same (s18.trans s19)).dq.dp, rd_shaped _, rd_shaped _, _, rfl, ?_⟩
        rw [SeqAt.eqv_refl _ (SeqAt.canLay_of_shaped (rd_shaped _))]
        exact iteF ⟨_, _, _, _, _, _, _, _, _, _, _, rfl, (hR16.same ((s17.trans s18).trans s19)).mono (goalN (N + 90) (by omega))⟩
    · rintro σ H2 ⟨y2, y3, y4, y5, y6, y7, y8, y9, y10, y11, y12, rfl, hR2⟩
      exact q _
end
end Lw
namespace Lw
open PySem PySem.Spec L2 Lx
theorem sz5 {n : Nat} (h : n ≤ 5) : n ≤ sizeLine := by
  rw [sizeLine_eq]; omega
theorem all_mk {P : Program} {w : World} {K : PySem.W.Frag} {h : Heap} {mg : Str → Option Value} {fa CDepot aL aN aS aU aD aM aQ fCc fCr fCf fIf fFo fBo fAk fBk fUo fSa fUg fRa fRu fUn fMg fFm fAp fDi fDc fDf fJo fNn fPw fLb fLd fLr fLu fLw fLc fBy fW : Addr} (X : K.In h) (G : h.Ns mainGlobals mg) (hfa : mg "law" = some (.ref fa))
    {ocCc kVCc docCc pmCc cdCc ctCc : Value} {odCc anCc : Option Addr} {oslCc : Array (Option Value)}
    {ocCr kVCr docCr pmCr cdCr ctCr : Value} {odCr anCr : Option Addr} {oslCr : Array (Option Value)}
    {ocCf kVCf docCf pmCf cdCf ctCf : Value} {odCf anCf : Option Addr} {oslCf : Array (Option Value)}
    {ocIf kVIf docIf pmIf cdIf ctIf : Value} {odIf anIf : Option Addr} {oslIf : Array (Option Value)}
    {ocFo kVFo docFo pmFo cdFo ctFo : Value} {odFo anFo : Option Addr} {oslFo : Array (Option Value)}
    {ocBo kVBo docBo pmBo cdBo ctBo : Value} {odBo anBo : Option Addr} {oslBo : Array (Option Value)}
    {ocAk kVAk docAk pmAk cdAk ctAk : Value} {odAk anAk : Option Addr} {oslAk : Array (Option Value)}
    {ocBk kVBk docBk pmBk cdBk ctBk : Value} {odBk anBk : Option Addr} {oslBk : Array (Option Value)}
    {ocUo kVUo docUo pmUo cdUo ctUo : Value} {odUo anUo : Option Addr} {oslUo : Array (Option Value)}
    {ocSa kVSa docSa pmSa cdSa ctSa : Value} {odSa anSa : Option Addr} {oslSa : Array (Option Value)}
    {ocUg kVUg docUg pmUg cdUg ctUg : Value} {odUg anUg : Option Addr} {oslUg : Array (Option Value)}
    {ocRa kVRa docRa pmRa cdRa ctRa : Value} {odRa anRa : Option Addr} {oslRa : Array (Option Value)}
    {ocRu kVRu docRu pmRu cdRu ctRu : Value} {odRu anRu : Option Addr} {oslRu : Array (Option Value)}
    {ocUn kVUn docUn pmUn cdUn ctUn : Value} {odUn anUn : Option Addr} {oslUn : Array (Option Value)}
    {ocMg kVMg docMg pmMg cdMg ctMg : Value} {odMg anMg : Option Addr} {oslMg : Array (Option Value)}
    {ocFm kVFm docFm pmFm cdFm ctFm : Value} {odFm anFm : Option Addr} {oslFm : Array (Option Value)}
    {ocAp kVAp docAp pmAp cdAp ctAp : Value} {odAp anAp : Option Addr} {oslAp : Array (Option Value)}
    {ocDi kVDi docDi pmDi cdDi ctDi : Value} {odDi anDi : Option Addr} {oslDi : Array (Option Value)}
    {ocDc kVDc docDc pmDc cdDc ctDc : Value} {odDc anDc : Option Addr} {oslDc : Array (Option Value)}
    {ocDf kVDf docDf pmDf cdDf ctDf : Value} {odDf anDf : Option Addr} {oslDf : Array (Option Value)}
    {ocJo kVJo docJo pmJo cdJo ctJo : Value} {odJo anJo : Option Addr} {oslJo : Array (Option Value)}
    {ocNn kVNn docNn pmNn cdNn ctNn : Value} {odNn anNn : Option Addr} {oslNn : Array (Option Value)}
    {ocPw kVPw docPw pmPw cdPw ctPw : Value} {odPw anPw : Option Addr} {oslPw : Array (Option Value)}
    {ocLb kVLb docLb pmLb cdLb ctLb : Value} {odLb anLb : Option Addr} {oslLb : Array (Option Value)}
    {ocLd kVLd docLd pmLd cdLd ctLd : Value} {odLd anLd : Option Addr} {oslLd : Array (Option Value)}
    {ocLr kVLr docLr pmLr cdLr ctLr : Value} {odLr anLr : Option Addr} {oslLr : Array (Option Value)}
    {ocLu kVLu docLu pmLu cdLu ctLu : Value} {odLu anLu : Option Addr} {oslLu : Array (Option Value)}
    {ocLw kVLw docLw pmLw cdLw ctLw : Value} {odLw anLw : Option Addr} {oslLw : Array (Option Value)}
    {ocLc kVLc docLc pmLc cdLc ctLc : Value} {odLc anLc : Option Addr} {oslLc : Array (Option Value)}
    {ocBy kVBy docBy pmBy cdBy ctBy : Value} {odBy anBy : Option Addr} {oslBy : Array (Option Value)}
    {ocW kVW docW pmW cdW ctW : Value} {odW anW : Option Addr} {oslW : Array (Option Value)}
    {tS : Tok}
    {t3 t5 t4 : Tok} {esL : Array DictEntry} {nL : Nat}
    {n1 n2 n3 : Tok} {nN : Nat} {odN : Option Addr} {slN : Array (Option Value)}
    {uU0 uU1 uU2 uD0 uD1 uD2 uM0 uM1 uM2 uM3 uM4 uN0 uN1 uN2 uN3 : Tok} {esS : Array DictEntry} {nS nU nD nM nQ : Nat} {odU odD odM odQ : Option Addr} {slU slD slM slQ : Array (Option Value)}
    (aCDepot : PySem.W.nsIn K mainGlobals "Depot" = some (some (.ref CDepot)))
    (pgDepot : PySem.W.plainGet K CDepot Str.empty = true)
    (hdDepot : PySem.W.hasDictIn K CDepot = true)
    (poDepot : PySem.W.plainOver K CDepot = true)
    (mkDepot : PySem.W.makesIn K CDepot = true)
    (kcDepot : PySem.W.keepIn K (.ref CDepot) = true)
    (saDepot : PySem.W.findIn K (.ref CDepot) "__setattr__" = some (some (.builtin "object.__setattr__")))
    (n0Depot : PySem.W.findIn K (.ref CDepot) "_forms" = some none)
    (aCc : PySem.W.nsIn K mainGlobals "check_chain" = some (some (.ref fCc)))
    (lCc : K.lookup fCc = some ⟨ocCc, odCc, .func (PySem.W.fnOf "check_chain" "check_chain" (defArgs sChkChain) (defBody sChkChain) (defScope sChkChain) .none kVCc docCc pmCc anCc cdCc ctCc), oslCc⟩)
    (c_Cc : PySem.W.codeIn K cdCc "check_chain" = true)
    (k_Cc : PySem.W.keepIn K (.ref fCc) = true)
    (aCr : PySem.W.nsIn K mainGlobals "check_run" = some (some (.ref fCr)))
    (lCr : K.lookup fCr = some ⟨ocCr, odCr, .func (PySem.W.fnOf "check_run" "check_run" (defArgs sChkRun) (defBody sChkRun) (defScope sChkRun) .none kVCr docCr pmCr anCr cdCr ctCr), oslCr⟩)
    (c_Cr : PySem.W.codeIn K cdCr "check_run" = true)
    (k_Cr : PySem.W.keepIn K (.ref fCr) = true)
    (aCf : PySem.W.nsIn K mainGlobals "check_form" = some (some (.ref fCf)))
    (lCf : K.lookup fCf = some ⟨ocCf, odCf, .func (PySem.W.fnOf "check_form" "check_form" (defArgs sChkForm) (defBody sChkForm) (defScope sChkForm) .none kVCf docCf pmCf anCf cdCf ctCf), oslCf⟩)
    (c_Cf : PySem.W.codeIn K cdCf "check_form" = true)
    (k_Cf : PySem.W.keepIn K (.ref fCf) = true)
    (aIf : PySem.W.nsIn K mainGlobals "is_form" = some (some (.ref fIf)))
    (lIf : K.lookup fIf = some ⟨ocIf, odIf, .func (PySem.W.fnOf "is_form" "is_form" (defArgs sIsForm) (defBody sIsForm) (defScope sIsForm) .none kVIf docIf pmIf anIf cdIf ctIf), oslIf⟩)
    (c_If : PySem.W.codeIn K cdIf "is_form" = true)
    (k_If : PySem.W.keepIn K (.ref fIf) = true)
    (aFo : PySem.W.nsIn K mainGlobals "form_of_chain" = some (some (.ref fFo)))
    (lFo : K.lookup fFo = some ⟨ocFo, odFo, .func (PySem.W.fnOf "form_of_chain" "form_of_chain" (defArgs sFoc) (defBody sFoc) (defScope sFoc) .none kVFo docFo pmFo anFo cdFo ctFo), oslFo⟩)
    (c_Fo : PySem.W.codeIn K cdFo "form_of_chain" = true)
    (k_Fo : PySem.W.keepIn K (.ref fFo) = true)
    (aBo : PySem.W.nsIn K mainGlobals "form_of_both" = some (some (.ref fBo)))
    (lBo : K.lookup fBo = some ⟨ocBo, odBo, .func (PySem.W.fnOf "form_of_both" "form_of_both" (defArgs sBoth) (defBody sBoth) (defScope sBoth) .none kVBo docBo pmBo anBo cdBo ctBo), oslBo⟩)
    (c_Bo : PySem.W.codeIn K cdBo "form_of_both" = true)
    (k_Bo : PySem.W.keepIn K (.ref fBo) = true)
    (aAk : PySem.W.nsIn K mainGlobals "after_keep" = some (some (.ref fAk)))
    (lAk : K.lookup fAk = some ⟨ocAk, odAk, .func (PySem.W.fnOf "after_keep" "after_keep" (defArgs sAftKeep) (defBody sAftKeep) (defScope sAftKeep) .none kVAk docAk pmAk anAk cdAk ctAk), oslAk⟩)
    (c_Ak : PySem.W.codeIn K cdAk "after_keep" = true)
    (k_Ak : PySem.W.keepIn K (.ref fAk) = true)
    (aBk : PySem.W.nsIn K mainGlobals "before_keep" = some (some (.ref fBk)))
    (lBk : K.lookup fBk = some ⟨ocBk, odBk, .func (PySem.W.fnOf "before_keep" "before_keep" (defArgs sBefKeep) (defBody sBefKeep) (defScope sBefKeep) .none kVBk docBk pmBk anBk cdBk ctBk), oslBk⟩)
    (c_Bk : PySem.W.codeIn K cdBk "before_keep" = true)
    (k_Bk : PySem.W.keepIn K (.ref fBk) = true)
    (aUo : PySem.W.nsIn K mainGlobals "units_of_one" = some (some (.ref fUo)))
    (lUo : K.lookup fUo = some ⟨ocUo, odUo, .func (PySem.W.fnOf "units_of_one" "units_of_one" (defArgs sOne) (defBody sOne) (defScope sOne) .none kVUo docUo pmUo anUo cdUo ctUo), oslUo⟩)
    (c_Uo : PySem.W.codeIn K cdUo "units_of_one" = true)
    (k_Uo : PySem.W.keepIn K (.ref fUo) = true)
    (aSa : PySem.W.nsIn K mainGlobals "signs_after" = some (some (.ref fSa)))
    (lSa : K.lookup fSa = some ⟨ocSa, odSa, .func (PySem.W.fnOf "signs_after" "signs_after" (defArgs sSigns) (defBody sSigns) (defScope sSigns) .none kVSa docSa pmSa anSa cdSa ctSa), oslSa⟩)
    (c_Sa : PySem.W.codeIn K cdSa "signs_after" = true)
    (k_Sa : PySem.W.keepIn K (.ref fSa) = true)
    (aUg : PySem.W.nsIn K mainGlobals "units_of_group" = some (some (.ref fUg)))
    (lUg : K.lookup fUg = some ⟨ocUg, odUg, .func (PySem.W.fnOf "units_of_group" "units_of_group" (defArgs sUog) (defBody sUog) (defScope sUog) .none kVUg docUg pmUg anUg cdUg ctUg), oslUg⟩)
    (c_Ug : PySem.W.codeIn K cdUg "units_of_group" = true)
    (k_Ug : PySem.W.keepIn K (.ref fUg) = true)
    (aRa : PySem.W.nsIn K mainGlobals "run_after" = some (some (.ref fRa)))
    (lRa : K.lookup fRa = some ⟨ocRa, odRa, .func (PySem.W.fnOf "run_after" "run_after" (defArgs sRunAft) (defBody sRunAft) (defScope sRunAft) .none kVRa docRa pmRa anRa cdRa ctRa), oslRa⟩)
    (c_Ra : PySem.W.codeIn K cdRa "run_after" = true)
    (k_Ra : PySem.W.keepIn K (.ref fRa) = true)
    (aRu : PySem.W.nsIn K mainGlobals "run_of_units" = some (some (.ref fRu)))
    (lRu : K.lookup fRu = some ⟨ocRu, odRu, .func (PySem.W.fnOf "run_of_units" "run_of_units" (defArgs sRou) (defBody sRou) (defScope sRou) .none kVRu docRu pmRu anRu cdRu ctRu), oslRu⟩)
    (c_Ru : PySem.W.codeIn K cdRu "run_of_units" = true)
    (k_Ru : PySem.W.keepIn K (.ref fRu) = true)
    (aUn : PySem.W.nsIn K mainGlobals "units" = some (some (.ref fUn)))
    (lUn : K.lookup fUn = some ⟨ocUn, odUn, .func (PySem.W.fnOf "units" "units" (defArgs sUnits) (defBody sUnits) (defScope sUnits) .none kVUn docUn pmUn anUn cdUn ctUn), oslUn⟩)
    (c_Un : PySem.W.codeIn K cdUn "units" = true)
    (k_Un : PySem.W.keepIn K (.ref fUn) = true)
    (aMg : PySem.W.nsIn K mainGlobals "merged_groups" = some (some (.ref fMg)))
    (lMg : K.lookup fMg = some ⟨ocMg, odMg, .func (PySem.W.fnOf "merged_groups" "merged_groups" (defArgs sMerged) (defBody sMerged) (defScope sMerged) .none kVMg docMg pmMg anMg cdMg ctMg), oslMg⟩)
    (c_Mg : PySem.W.codeIn K cdMg "merged_groups" = true)
    (k_Mg : PySem.W.keepIn K (.ref fMg) = true)
    (aFm : PySem.W.nsIn K mainGlobals "form" = some (some (.ref fFm)))
    (lFm : K.lookup fFm = some ⟨ocFm, odFm, .func (PySem.W.fnOf "form" "form" (defArgs sForm) (defBody sForm) (defScope sForm) .none kVFm docFm pmFm anFm cdFm ctFm), oslFm⟩)
    (c_Fm : PySem.W.codeIn K cdFm "form" = true)
    (k_Fm : PySem.W.keepIn K (.ref fFm) = true)
    (aAp : PySem.W.nsIn K mainGlobals "apply_form" = some (some (.ref fAp)))
    (lAp : K.lookup fAp = some ⟨ocAp, odAp, .func (PySem.W.fnOf "apply_form" "apply_form" (defArgs sApply) (defBody sApply) (defScope sApply) .none kVAp docAp pmAp anAp cdAp ctAp), oslAp⟩)
    (c_Ap : PySem.W.codeIn K cdAp "apply_form" = true)
    (k_Ap : PySem.W.keepIn K (.ref fAp) = true)
    (aDi : PySem.W.findIn K (.ref CDepot) "__init__" = some (some (.ref fDi)))
    (iDi : PySem.W.isFn K (.ref fDi) = true)
    (lDi : K.lookup fDi = some ⟨ocDi, odDi, .func (PySem.W.fnOf "__init__" "Depot.__init__" (defArgs sDepot___init__) (defBody sDepot___init__) (defScope sDepot___init__) .none kVDi docDi pmDi anDi cdDi ctDi), oslDi⟩)
    (c_Di : PySem.W.codeIn K cdDi "Depot.__init__" = true)
    (k_Di : PySem.W.keepIn K (.ref fDi) = true)
    (aDc : PySem.W.findIn K (.ref CDepot) "copy" = some (some (.ref fDc)))
    (iDc : PySem.W.isFn K (.ref fDc) = true)
    (lDc : K.lookup fDc = some ⟨ocDc, odDc, .func (PySem.W.fnOf "copy" "Depot.copy" (defArgs sDepot_copy) (defBody sDepot_copy) (defScope sDepot_copy) .none kVDc docDc pmDc anDc cdDc ctDc), oslDc⟩)
    (c_Dc : PySem.W.codeIn K cdDc "Depot.copy" = true)
    (k_Dc : PySem.W.keepIn K (.ref fDc) = true)
    (aDf : PySem.W.findIn K (.ref CDepot) "form_of" = some (some (.ref fDf)))
    (iDf : PySem.W.isFn K (.ref fDf) = true)
    (lDf : K.lookup fDf = some ⟨ocDf, odDf, .func (PySem.W.fnOf "form_of" "Depot.form_of" (defArgs sDepot_form_of) (defBody sDepot_form_of) (defScope sDepot_form_of) .none kVDf docDf pmDf anDf cdDf ctDf), oslDf⟩)
    (c_Df : PySem.W.codeIn K cdDf "Depot.form_of" = true)
    (k_Df : PySem.W.keepIn K (.ref fDf) = true)
    (aJo : PySem.W.nsIn K mainGlobals "joined" = some (some (.ref fJo)))
    (lJo : K.lookup fJo = some ⟨ocJo, odJo, .func (PySem.W.fnOf "joined" "joined" (defArgs sJoined) (defBody sJoined) (defScope sJoined) .none kVJo docJo pmJo anJo cdJo ctJo), oslJo⟩)
    (c_Jo : PySem.W.codeIn K cdJo "joined" = true)
    (k_Jo : PySem.W.keepIn K (.ref fJo) = true)
    (aNn : PySem.W.nsIn K mainGlobals "check_not_negative" = some (some (.ref fNn)))
    (lNn : K.lookup fNn = some ⟨ocNn, odNn, .func (PySem.W.fnOf "check_not_negative" "check_not_negative" (defArgs sNotNeg) (defBody sNotNeg) (defScope sNotNeg) .none kVNn docNn pmNn anNn cdNn ctNn), oslNn⟩)
    (c_Nn : PySem.W.codeIn K cdNn "check_not_negative" = true)
    (k_Nn : PySem.W.keepIn K (.ref fNn) = true)
    (aPw : PySem.W.nsIn K mainGlobals "powered" = some (some (.ref fPw)))
    (lPw : K.lookup fPw = some ⟨ocPw, odPw, .func (PySem.W.fnOf "powered" "powered" (defArgs sPowered) (defBody sPowered) (defScope sPowered) .none kVPw docPw pmPw anPw cdPw ctPw), oslPw⟩)
    (c_Pw : PySem.W.codeIn K cdPw "powered" = true)
    (k_Pw : PySem.W.keepIn K (.ref fPw) = true)
    (aLb : PySem.W.nsIn K mainGlobals "_law_bag" = some (some (.ref fLb)))
    (lLb : K.lookup fLb = some ⟨ocLb, odLb, .func (PySem.W.fnOf "_law_bag" "_law_bag" (defArgs sLBag) (defBody sLBag) (defScope sLBag) .none kVLb docLb pmLb anLb cdLb ctLb), oslLb⟩)
    (c_Lb : PySem.W.codeIn K cdLb "_law_bag" = true)
    (k_Lb : PySem.W.keepIn K (.ref fLb) = true)
    (aLd : PySem.W.nsIn K mainGlobals "_law_draw" = some (some (.ref fLd)))
    (lLd : K.lookup fLd = some ⟨ocLd, odLd, .func (PySem.W.fnOf "_law_draw" "_law_draw" (defArgs sLDraw) (defBody sLDraw) (defScope sLDraw) .none kVLd docLd pmLd anLd cdLd ctLd), oslLd⟩)
    (c_Ld : PySem.W.codeIn K cdLd "_law_draw" = true)
    (k_Ld : PySem.W.keepIn K (.ref fLd) = true)
    (aLr : PySem.W.nsIn K mainGlobals "_law_reduced" = some (some (.ref fLr)))
    (lLr : K.lookup fLr = some ⟨ocLr, odLr, .func (PySem.W.fnOf "_law_reduced" "_law_reduced" (defArgs sLReduced) (defBody sLReduced) (defScope sLReduced) .none kVLr docLr pmLr anLr cdLr ctLr), oslLr⟩)
    (c_Lr : PySem.W.codeIn K cdLr "_law_reduced" = true)
    (k_Lr : PySem.W.keepIn K (.ref fLr) = true)
    (aLu : PySem.W.nsIn K mainGlobals "_law_run" = some (some (.ref fLu)))
    (lLu : K.lookup fLu = some ⟨ocLu, odLu, .func (PySem.W.fnOf "_law_run" "_law_run" (defArgs sLRun) (defBody sLRun) (defScope sLRun) .none kVLu docLu pmLu anLu cdLu ctLu), oslLu⟩)
    (c_Lu : PySem.W.codeIn K cdLu "_law_run" = true)
    (k_Lu : PySem.W.keepIn K (.ref fLu) = true)
    (aLw : PySem.W.nsIn K mainGlobals "_law_any_wanted" = some (some (.ref fLw)))
    (lLw : K.lookup fLw = some ⟨ocLw, odLw, .func (PySem.W.fnOf "_law_any_wanted" "_law_any_wanted" (defArgs sLAnyWanted) (defBody sLAnyWanted) (defScope sLAnyWanted) .none kVLw docLw pmLw anLw cdLw ctLw), oslLw⟩)
    (c_Lw : PySem.W.codeIn K cdLw "_law_any_wanted" = true)
    (k_Lw : PySem.W.keepIn K (.ref fLw) = true)
    (aLc : PySem.W.nsIn K mainGlobals "_law_chain" = some (some (.ref fLc)))
    (lLc : K.lookup fLc = some ⟨ocLc, odLc, .func (PySem.W.fnOf "_law_chain" "_law_chain" (defArgs sLChain) (defBody sLChain) (defScope sLChain) .none kVLc docLc pmLc anLc cdLc ctLc), oslLc⟩)
    (c_Lc : PySem.W.codeIn K cdLc "_law_chain" = true)
    (k_Lc : PySem.W.keepIn K (.ref fLc) = true)
    (aBy : PySem.W.nsIn K mainGlobals "_law_by_depot" = some (some (.ref fBy)))
    (lBy : K.lookup fBy = some ⟨ocBy, odBy, .func (PySem.W.fnOf "_law_by_depot" "_law_by_depot" (defArgs sLByDepot) (defBody sLByDepot) (defScope sLByDepot) .none kVBy docBy pmBy anBy cdBy ctBy), oslBy⟩)
    (c_By : PySem.W.codeIn K cdBy "_law_by_depot" = true)
    (k_By : PySem.W.keepIn K (.ref fBy) = true)
    (aW : PySem.W.nsIn K mainGlobals "law" = some (some (.ref fW)))
    (lW : K.lookup fW = some ⟨ocW, odW, .func (PySem.W.fnOf "law" "law" (defArgs sLaw) (defBody sLaw) (defScope sLaw) .none kVW docW pmW anW cdW ctW), oslW⟩)
    (c_W : PySem.W.codeIn K cdW "law" = true)
    (k_W : PySem.W.keepIn K (.ref fW) = true)
    (z_abs : PySem.W.nsIn K mainGlobals "abs" = some none)
    (z_enumerate : PySem.W.nsIn K mainGlobals "enumerate" = some none)
    (z_len : PySem.W.nsIn K mainGlobals "len" = some none)
    (z_max : PySem.W.nsIn K mainGlobals "max" = some none)
    (z_min : PySem.W.nsIn K mainGlobals "min" = some none)
    (z_range : PySem.W.nsIn K mainGlobals "range" = some none)
    (z_sum : PySem.W.nsIn K mainGlobals "sum" = some none)
    (gS : PySem.W.nsIn K mainGlobals "STEPS" = some (some (.str "UDMN" tS)))
    (gL : PySem.W.nsIn K mainGlobals "FORM_LENGTHS" = some (some (.ref aL)))
    (hL : K.lookup aL = some ⟨.type "dict", none, .dict esL nL, #[]⟩)
    (kL : PySem.W.KeysLit w.params esL.toList)
    (mL : (aL == sysModules) = false)
    (vL3 : PySem.W.nsIn K aL "keep" = some (some (.int 3 t3)))
    (vL5 : PySem.W.nsIn K aL "lf" = some (some (.int 5 t5)))
    (vL4 : PySem.W.nsIn K aL "cr" = some (some (.int 4 t4)))
    (gN : PySem.W.nsIn K mainGlobals "NOTHING" = some (some (.ref aN)))
    (hN : K.lookup aN = some ⟨.type "tuple", odN, .seq #[.str "keep" n1, .int 0 n2, .int 0 n3] nN, slN⟩)
    (gQ : PySem.W.nsIn K mainGlobals "STEP_FORMS" = some (some (.ref aS)))
    (hS : K.lookup aS = some ⟨.type "dict", none, .dict esS nS, #[]⟩)
    (kS : PySem.W.KeysLit w.params esS.toList)
    (sU : PySem.W.nsIn K aS "U" = some (some (.ref aU)))
    (hUt : K.lookup aU = some ⟨.type "tuple", odU, .seq #[.str "keep" uU0, .int 0 uU1, .int 1 uU2] nU, slU⟩)
    (sD : PySem.W.nsIn K aS "D" = some (some (.ref aD)))
    (hDt : K.lookup aD = some ⟨.type "tuple", odD, .seq #[.str "keep" uD0, .int 1 uD1, .int 0 uD2] nD, slD⟩)
    (sM : PySem.W.nsIn K aS "M" = some (some (.ref aM)))
    (hMt : K.lookup aM = some ⟨.type "tuple", odM, .seq #[.str "lf" uM0, .int 0 uM1, .int 0 uM2, .int 1 uM3, .int 0 uM4] nM, slM⟩)
    (sN : PySem.W.nsIn K aS "N" = some (some (.ref aQ)))
    (hNt : K.lookup aQ = some ⟨.type "tuple", odQ, .seq #[.str "cr" uN0, .int 0 uN1, .int 0 uN2, .int 1 uN3] nQ, slQ⟩) :
    ∃ fd : FuncData, (∀ (s : Shared) (v : Value), BindsTo s fd ⟨[v], []⟩ [("script", v)]) ∧ ∀ base : Heap, K.In base → base.Ns mainGlobals mg → FnG P w K mg base CX0 8 fa fd ["script"] (spLaw K) := by
  have e := hfa.symm.trans (PySem.W.mg_of X G aW)
  cases e
  have FCc := fun_mk (st := sChkChain) lCc c_Cc k_Cc
  have bCc := FCc.binds (ps := ["chain"]) fun _ _ _ _ _ _ us hl => match us, hl with | [_], _ => rfl
  have gCc' := PySem.W.mg_of X G aCc
  have FCr := fun_mk (st := sChkRun) lCr c_Cr k_Cr
  have bCr := FCr.binds (ps := ["run"]) fun _ _ _ _ _ _ us hl => match us, hl with | [_], _ => rfl
  have gCr' := PySem.W.mg_of X G aCr
  have FCf := fun_mk (st := sChkForm) lCf c_Cf k_Cf
  have bCf := FCf.binds (ps := ["wanted"]) fun _ _ _ _ _ _ us hl => match us, hl with | [_], _ => rfl
  have gCf' := PySem.W.mg_of X G aCf
  have FIf := fun_mk (st := sIsForm) lIf c_If k_If
  have bIf := FIf.binds (ps := ["wanted"]) fun _ _ _ _ _ _ us hl => match us, hl with | [_], _ => rfl
  have gIf' := PySem.W.mg_of X G aIf
  have FFo := fun_mk (st := sFoc) lFo c_Fo k_Fo
  have bFo := FFo.binds (ps := ["chain"]) fun _ _ _ _ _ _ us hl => match us, hl with | [_], _ => rfl
  have gFo' := PySem.W.mg_of X G aFo
  have FBo := fun_mk (st := sBoth) lBo c_Bo k_Bo
  have bBo := FBo.binds (ps := ["first", "second"]) fun _ _ _ _ _ _ us hl => match us, hl with | [_, _], _ => rfl
  have gBo' := PySem.W.mg_of X G aBo
  have FAk := fun_mk (st := sAftKeep) lAk c_Ak k_Ak
  have bAk := FAk.binds (ps := ["first", "second"]) fun _ _ _ _ _ _ us hl => match us, hl with | [_, _], _ => rfl
  have gAk' := PySem.W.mg_of X G aAk
  have FBk := fun_mk (st := sBefKeep) lBk c_Bk k_Bk
  have bBk := FBk.binds (ps := ["first", "second"]) fun _ _ _ _ _ _ us hl => match us, hl with | [_, _], _ => rfl
  have gBk' := PySem.W.mg_of X G aBk
  have FUo := fun_mk (st := sOne) lUo c_Uo k_Uo
  have bUo := FUo.binds (ps := ["first", "second"]) fun _ _ _ _ _ _ us hl => match us, hl with | [_, _], _ => rfl
  have gUo' := PySem.W.mg_of X G aUo
  have FSa := fun_mk (st := sSigns) lSa c_Sa k_Sa
  have bSa := FSa.binds (ps := ["j", "wanted"]) fun _ _ _ _ _ _ us hl => match us, hl with | [_, _], _ => rfl
  have gSa' := PySem.W.mg_of X G aSa
  have FUg := fun_mk (st := sUog) lUg c_Ug k_Ug
  have bUg := FUg.binds (ps := ["j", "wanted"]) fun _ _ _ _ _ _ us hl => match us, hl with | [_, _], _ => rfl
  have gUg' := PySem.W.mg_of X G aUg
  have FRa := fun_mk (st := sRunAft) lRa c_Ra k_Ra
  have bRa := FRa.binds (ps := ["run", "wanted"]) fun _ _ _ _ _ _ us hl => match us, hl with | [_, _], _ => rfl
  have gRa' := PySem.W.mg_of X G aRa
  have FRu := fun_mk (st := sRou) lRu c_Ru k_Ru
  have bRu := FRu.binds (ps := ["total", "wanted"]) fun _ _ _ _ _ _ us hl => match us, hl with | [_, _], _ => rfl
  have gRu' := PySem.W.mg_of X G aRu
  have FUn := fun_mk (st := sUnits) lUn c_Un k_Un
  have bUn := FUn.binds (ps := ["run", "wanted"]) fun _ _ _ _ _ _ us hl => match us, hl with | [_, _], _ => rfl
  have gUn' := PySem.W.mg_of X G aUn
  have FMg := fun_mk (st := sMerged) lMg c_Mg k_Mg
  have bMg := FMg.binds (ps := ["groups"]) fun _ _ _ _ _ _ us hl => match us, hl with | [_], _ => rfl
  have gMg' := PySem.W.mg_of X G aMg
  have FFm := fun_mk (st := sForm) lFm c_Fm k_Fm
  have bFm := FFm.binds (ps := ["chain"]) fun _ _ _ _ _ _ us hl => match us, hl with | [_], _ => rfl
  have gFm' := PySem.W.mg_of X G aFm
  have FAp := fun_mk (st := sApply) lAp c_Ap k_Ap
  have bAp := FAp.binds (ps := ["run", "wanted"]) fun _ _ _ _ _ _ us hl => match us, hl with | [_, _], _ => rfl
  have gAp' := PySem.W.mg_of X G aAp
  have FDi := fun_mk (st := sDepot___init__) lDi c_Di k_Di
  have bDi := FDi.binds (ps := ["self", "name"]) fun _ _ _ _ _ _ us hl => match us, hl with | [_, _], _ => rfl
  have FDc := fun_mk (st := sDepot_copy) lDc c_Dc k_Dc
  have bDc := FDc.binds (ps := ["self", "source", "name", "chain"]) fun _ _ _ _ _ _ us hl => match us, hl with | [_, _, _, _], _ => rfl
  have FDf := fun_mk (st := sDepot_form_of) lDf c_Df k_Df
  have bDf := FDf.binds (ps := ["self", "name"]) fun _ _ _ _ _ _ us hl => match us, hl with | [_, _], _ => rfl
  have FJo := fun_mk (st := sJoined) lJo c_Jo k_Jo
  have bJo := FJo.binds (ps := ["first", "second"]) fun _ _ _ _ _ _ us hl => match us, hl with | [_, _], _ => rfl
  have gJo' := PySem.W.mg_of X G aJo
  have FNn := fun_mk (st := sNotNeg) lNn c_Nn k_Nn
  have bNn := FNn.binds (ps := ["number"]) fun _ _ _ _ _ _ us hl => match us, hl with | [_], _ => rfl
  have gNn' := PySem.W.mg_of X G aNn
  have FPw := fun_mk (st := sPowered) lPw c_Pw k_Pw
  have bPw := FPw.binds (ps := ["wanted", "times"]) fun _ _ _ _ _ _ us hl => match us, hl with | [_, _], _ => rfl
  have gPw' := PySem.W.mg_of X G aPw
  have FLb := fun_mk (st := sLBag) lLb c_Lb k_Lb
  have bLb := FLb.binds (ps := ["script"]) fun _ _ _ _ _ _ us hl => match us, hl with | [_], _ => rfl
  have gLb' := PySem.W.mg_of X G aLb
  have FLd := fun_mk (st := sLDraw) lLd c_Ld k_Ld
  have bLd := FLd.binds (ps := ["bag", "many"]) fun _ _ _ _ _ _ us hl => match us, hl with | [_, _], _ => rfl
  have gLd' := PySem.W.mg_of X G aLd
  have FLr := fun_mk (st := sLReduced) lLr c_Lr k_Lr
  have bLr := FLr.binds (ps := ["row"]) fun _ _ _ _ _ _ us hl => match us, hl with | [_], _ => rfl
  have gLr' := PySem.W.mg_of X G aLr
  have FLu := fun_mk (st := sLRun) lLu c_Lu k_Lu
  have bLu := FLu.binds (ps := ["bag", "tuples", "most", "wide"]) fun _ _ _ _ _ _ us hl => match us, hl with | [_, _, _, _], _ => rfl
  have gLu' := PySem.W.mg_of X G aLu
  have FLw := fun_mk (st := sLAnyWanted) lLw c_Lw k_Lw
  have bLw := FLw.binds (ps := ["bag", "far"]) fun _ _ _ _ _ _ us hl => match us, hl with | [_, _], _ => rfl
  have gLw' := PySem.W.mg_of X G aLw
  have FLc := fun_mk (st := sLChain) lLc c_Lc k_Lc
  have bLc := FLc.binds (ps := ["bag", "most"]) fun _ _ _ _ _ _ us hl => match us, hl with | [_, _], _ => rfl
  have gLc' := PySem.W.mg_of X G aLc
  have FBy := fun_mk (st := sLByDepot) lBy c_By k_By
  have bBy := FBy.binds (ps := ["chain_now", "many"]) fun _ _ _ _ _ _ us hl => match us, hl with | [_, _], _ => rfl
  have gBy' := PySem.W.mg_of X G aBy
  have FW := fun_mk (st := sLaw) lW c_W k_W
  have gW' := PySem.W.mg_of X G aW
  have m_abs := PySem.W.mg_none_of X G z_abs
  have m_enumerate := PySem.W.mg_none_of X G z_enumerate
  have m_len := PySem.W.mg_none_of X G z_len
  have m_max := PySem.W.mg_none_of X G z_max
  have m_min := PySem.W.mg_none_of X G z_min
  have m_range := PySem.W.mg_none_of X G z_range
  have m_sum := PySem.W.mg_none_of X G z_sum
  have gSt := PySem.W.mg_of X G gS
  have TL : LenT K w mg aL := ⟨PySem.W.mg_of X G gL, ⟨_, _, hL, kL, mL⟩, ⟨_, vL3⟩, ⟨_, vL5⟩, ⟨_, vL4⟩⟩
  have tN : ∀ H : Hp, FmAt K H (.ref aN) nothing := fun H => ⟨aN, rfl, .inr ⟨_, _, _, hN, rfl, rfl, sz5 (by simp), .cons ⟨_, rfl⟩ (.cons ⟨_, rfl⟩ (.cons ⟨_, rfl⟩ .nil))⟩⟩
  have TS : StepT K w mg aN aS := ⟨PySem.W.mg_of X G gN, tN, PySem.W.mg_of X G gQ, fun c hc => by
    have hc' : c ∈ [85, 68, 77, 78] := hc
    simp only [List.mem_cons, List.not_mem_nil, or_false] at hc'
    rcases hc' with rfl | rfl | rfl | rfl
    · exact ⟨.ref aU, ⟨_, _, _, hS, kS, sU, rfl⟩, fun H => ⟨aU, rfl, .inr ⟨_, _, _, hUt, rfl, rfl, sz5 (by simp), .cons ⟨_, rfl⟩ (.cons ⟨_, rfl⟩ (.cons ⟨_, rfl⟩ .nil))⟩⟩⟩
    · exact ⟨.ref aD, ⟨_, _, _, hS, kS, sD, rfl⟩, fun H => ⟨aD, rfl, .inr ⟨_, _, _, hDt, rfl, rfl, sz5 (by simp), .cons ⟨_, rfl⟩ (.cons ⟨_, rfl⟩ (.cons ⟨_, rfl⟩ .nil))⟩⟩⟩
    · exact ⟨.ref aM, ⟨_, _, _, hS, kS, sM, rfl⟩, fun H => ⟨aM, rfl, .inr ⟨_, _, _, hMt, rfl, rfl, sz5 (by simp), .cons ⟨_, rfl⟩ (.cons ⟨_, rfl⟩ (.cons ⟨_, rfl⟩ (.cons ⟨_, rfl⟩ (.cons ⟨_, rfl⟩ .nil))))⟩⟩⟩
    · exact ⟨.ref aQ, ⟨_, _, _, hS, kS, sN, rfl⟩, fun H => ⟨aQ, rfl, .inr ⟨_, _, _, hNt, rfl, rfl, sz5 (by simp), .cons ⟨_, rfl⟩ (.cons ⟨_, rfl⟩ (.cons ⟨_, rfl⟩ (.cons ⟨_, rfl⟩ .nil)))⟩⟩⟩⟩
  refine ⟨PySem.W.fnOf "law" "law" (defArgs sLaw) (defBody sLaw) (defScope sLaw) .none kVW docW pmW anW cdW ctW, fun s v => .of_eq rfl, fun base _ _ => ?_⟩
  have GCc : FnOk P w K mg base CX0 1 fCc _ ["chain"] spChkChain := ok_chkChain FCc m_enumerate gSt
  have GCr : FnOk P w K mg base CX0 1 fCr _ ["run"] (spChkRun K) := ok_chkRun FCr m_enumerate
  have GIf : FnOk P w K mg base CX0 1 fIf _ ["wanted"] (spIsForm K) := ok_isForm FIf TL m_len m_min
  have GCf : FnOk P w K mg base CX0 2 fCf _ ["wanted"] (spChkForm K) := ok_chkForm FCf GIf k_If bIf gIf'
  have GSa : FnOk P w K mg base CX0 1 fSa _ ["j", "wanted"] (spSigns K) := ok_signs FSa m_max
  have GUg : FnOk P w K mg base CX0 2 fUg _ ["j", "wanted"] (spUog K) := ok_uog FUg GSa k_Sa bSa gSa'
  have GUo : FnOk P w K mg base CX0 3 fUo _ ["first", "second"] (spOne K) := ok_one FUo GUg k_Ug bUg gUg'
  have GAk : FnOk P w K mg base CX0 1 fAk _ ["first", "second"] (spAftKeep K) := ok_aftKeep FAk m_max
  have GBk : FnOk P w K mg base CX0 2 fBk _ ["first", "second"] (spBefKeep K) := ok_befKeep FBk GSa k_Sa bSa gSa'
  have GBo : FnOk P w K mg base CX0 4 fBo _ ["first", "second"] (spBoth K) := ok_both FBo (GAk.mono (by decide)) k_Ak bAk gAk' (GBk.mono (by decide)) k_Bk bBk gBk' GUo k_Uo bUo gUo'
  have GFo : FnOk P w K mg base CX0 5 fFo _ ["chain"] (spFoc K) := ok_foc FFo TS GBo k_Bo bBo gBo'
  have GMg : FnOk P w K mg base CX0 1 fMg _ ["groups"] (spMerged K) := ok_merged FMg
  have GRu : FnOk P w K mg base CX0 1 fRu _ ["total", "wanted"] (spRou K) := ok_rou FRu
  have GUn : FnOk P w K mg base CX0 3 fUn _ ["run", "wanted"] (spUnits K) := ok_units FUn GUg k_Ug bUg gUg' m_sum
  have GRa : FnOk P w K mg base CX0 4 fRa _ ["run", "wanted"] (spRunAft K) := ok_runAft FRa (GSa.mono (by decide)) k_Sa bSa gSa' (GMg.mono (by decide)) k_Mg bMg gMg' GUn k_Un bUn gUn' (GRu.mono (by decide)) k_Ru bRu gRu'
  have GFm : FnOk P w K mg base CX0 6 fFm _ ["chain"] (spFoc K) := ok_form FFm (GCc.mono (by decide)) k_Cc bCc gCc' GFo k_Fo bFo gFo'
  have GAp : FnOk P w K mg base CX0 5 fAp _ ["run", "wanted"] (spApply K) := ok_apply FAp (GCr.mono (by decide)) k_Cr bCr gCr' (GCf.mono (by decide)) k_Cf bCf gCf' GRa k_Ra bRa gRa'
  have TD : DTxt K mg CDepot := ⟨⟨pgDepot, hdDepot, poDepot, saDepot⟩, n0Depot, PySem.W.mg_of X G aCDepot⟩
  have GDi : FnOk P w K mg base CX0 1 fDi _ ["self", "name"] (spDInit K CDepot) := ok_dinit FDi TD (PySem.W.mg_of X G gN) tN
  have GDf : FnOk P w K mg base CX0 1 fDf _ ["self", "name"] (spDForm K CDepot) := ok_dform FDf TD
  have GDc : FnOk P w K mg base CX0 6 fDc _ ["self", "source", "name", "chain"] (spDCopy K CDepot) := ok_dcopy FDc TD ⟨aDf, iDf, k_Df⟩ (GDf.mono (by decide)) bDf ⟨GCc.mono (by decide), k_Cc, bCc, gCc'⟩ ⟨GBo.mono (by decide), k_Bo, bBo, gBo'⟩ ⟨GFo.mono (by decide), k_Fo, bFo, gFo'⟩
  have GLb : FnOk P w K mg base CX0 1 fLb _ ["script"] (spBag K) := ok_bag FLb ⟨m_abs⟩
  have GLd : FnOk P w K mg base CX0 1 fLd _ ["bag", "many"] spDraw := ok_draw FLd ⟨m_len⟩
  have GLr : FnOk P w K mg base CX0 1 fLr _ ["row"] (spReduced K) := ok_reduced FLr ⟨m_len⟩
  have GLu : FnOk P w K mg base CX0 2 fLu _ ["bag", "tuples", "most", "wide"] (spRun K) := ok_run FLu ⟨m_range⟩ ⟨GLr, k_Lr, bLr, gLr'⟩ ⟨GLd, k_Ld, bLd, gLd'⟩
  have GLw : FnOk P w K mg base CX0 2 fLw _ ["bag", "far"] spAny := ok_any FLw ⟨m_range⟩ ⟨GLd, k_Ld, bLd, gLd'⟩
  have GLc : FnOk P w K mg base CX0 2 fLc _ ["bag", "most"] spChain := ok_chain FLc ⟨m_len⟩ ⟨GLd, k_Ld, bLd, gLd'⟩
  have GJo : FnOk P w K mg base CX0 5 fJo _ ["first", "second"] (spJoined K) := ok_joined FJo ⟨GCf.mono (by decide), k_Cf, bCf, gCf'⟩ ⟨GBo.mono (by decide), k_Bo, bBo, gBo'⟩
  have GNn : FnOk P w K mg base CX0 1 fNn _ ["number"] spNotNeg := ok_notneg FNn
  have GPw : FnOk P w K mg base CX0 5 fPw _ ["wanted", "times"] (spPowered K) := ok_powered FPw (PySem.W.mg_of X G gN) tN ⟨GCf.mono (by decide), k_Cf, bCf, gCf'⟩ ⟨GNn.mono (by decide), k_Nn, bNn, gNn'⟩ ⟨GBo.mono (by decide), k_Bo, bBo, gBo'⟩
  have GBy : FnOk P w K mg base CX0 7 fBy _ ["chain_now", "many"] (spByd K) := ok_byd FBy ⟨m_range⟩ TD ⟨mkDepot, aDi, iDi, kcDepot⟩ (k := 5) (GDi.mono (by decide)) bDi ⟨aDc, iDc, k_Dc⟩ GDc bDc ⟨aDf, iDf, k_Df⟩ (GDf.mono (by decide)) bDf
  have GW := ok_law FW ⟨m_range, m_min, m_len⟩ (k := 7) ⟨GLb.mono (by decide), k_Lb, bLb, gLb'⟩ ⟨GLd.mono (by decide), k_Ld, bLd, gLd'⟩ ⟨GLc.mono (by decide), k_Lc, bLc, gLc'⟩ ⟨GFm.mono (by decide), k_Fm, bFm, gFm'⟩ ⟨GPw.mono (by decide), k_Pw, bPw, gPw'⟩ (kb21 FPw fun _ _ _ _ _ _ _ _ => rfl) ⟨GBy.mono (by decide), k_By, bBy, gBy'⟩ ⟨GLw.mono (by decide), k_Lw, bLw, gLw'⟩ ⟨GJo.mono (by decide), k_Jo, bJo, gJo'⟩ ⟨GLu.mono (by decide), k_Lu, bLu, gLu'⟩ ⟨GAp.mono (by decide), k_Ap, bAp, gAp'⟩
  exact FnG.of GW
end Lw
open PySem PySem.W PyProof.Rows
set_option maxRecDepth 100000 in
set_option maxHeartbeats 0 in
theorem PySem.Challenge.cw_lineends_k66_whole_powers_by_copies_holds : PySem.Challenge.rw_lineends_k66_whole_powers_by_copies.Holds := by
  w_on; o_law; k_head; (case hw => w_witness2)
  k_fill
  refine Lx.endG (l := PySem.Challenge.rw_lineends_k66_whole_powers_by_copies) (n := 63) (k := 8) (x := "script") (CX := fun _ => L2.CX0) (sp := fun w => Lw.spLaw _) rfl (by decide) rfl ⟨rfl, by decide, by decide⟩ (fun w h Y => PySem.W.kIn_of Y) ?F (fun _ _ a ns hl hS => ⟨a, ns, rfl, hS, hl, fun _ => rfl⟩) (fun _ _ _ _ _ h => h)
  case F =>
    intro w mg fa h KX G hmg
    refine' Lw.all_mk KX G hmg ?aCDepot ?pgDepot ?hdDepot ?poDepot ?mkDepot ?kcDepot ?saDepot ?n0Depot ?aCc ?lCc ?c_Cc ?k_Cc ?aCr ?lCr ?c_Cr ?k_Cr ?aCf ?lCf ?c_Cf ?k_Cf ?aIf ?lIf ?c_If ?k_If ?aFo ?lFo ?c_Fo ?k_Fo ?aBo ?lBo ?c_Bo ?k_Bo ?aAk ?lAk ?c_Ak ?k_Ak ?aBk ?lBk ?c_Bk ?k_Bk ?aUo ?lUo ?c_Uo ?k_Uo ?aSa ?lSa ?c_Sa ?k_Sa ?aUg ?lUg ?c_Ug ?k_Ug ?aRa ?lRa ?c_Ra ?k_Ra ?aRu ?lRu ?c_Ru ?k_Ru ?aUn ?lUn ?c_Un ?k_Un ?aMg ?lMg ?c_Mg ?k_Mg ?aFm ?lFm ?c_Fm ?k_Fm ?aAp ?lAp ?c_Ap ?k_Ap ?aDi ?iDi ?lDi ?c_Di ?k_Di ?aDc ?iDc ?lDc ?c_Dc ?k_Dc ?aDf ?iDf ?lDf ?c_Df ?k_Df ?aJo ?lJo ?c_Jo ?k_Jo ?aNn ?lNn ?c_Nn ?k_Nn ?aPw ?lPw ?c_Pw ?k_Pw ?aLb ?lLb ?c_Lb ?k_Lb ?aLd ?lLd ?c_Ld ?k_Ld ?aLr ?lLr ?c_Lr ?k_Lr ?aLu ?lLu ?c_Lu ?k_Lu ?aLw ?lLw ?c_Lw ?k_Lw ?aLc ?lLc ?c_Lc ?k_Lc ?aBy ?lBy ?c_By ?k_By ?aW ?lW ?c_W ?k_W ?z_abs ?z_enumerate ?z_len ?z_max ?z_min ?z_range ?z_sum ?gS ?gL ?hL ?kL ?mL ?vL3 ?vL5 ?vL4 ?gN ?hN ?gQ ?hS ?kS ?sU ?hUt ?sD ?hDt ?sM ?hMt ?sN ?hNt
    (case aCDepot => k_is)
    (case pgDepot => k_is)
    (case hdDepot => k_is)
    (case poDepot => k_is)
    (case mkDepot => k_is)
    (case kcDepot => k_is)
    (case saDepot => k_is)
    (case n0Depot => k_is)
    (case aCc => k_is)
    (case lCc => k_is)
    (case c_Cc => k_is)
    (case k_Cc => k_is)
    (case aCr => k_is)
    (case lCr => k_is)
    (case c_Cr => k_is)
    (case k_Cr => k_is)
    (case aCf => k_is)
    (case lCf => k_is)
    (case c_Cf => k_is)
    (case k_Cf => k_is)
    (case aIf => k_is)
    (case lIf => k_is)
    (case c_If => k_is)
    (case k_If => k_is)
    (case aFo => k_is)
    (case lFo => k_is)
    (case c_Fo => k_is)
    (case k_Fo => k_is)
    (case aBo => k_is)
    (case lBo => k_is)
    (case c_Bo => k_is)
    (case k_Bo => k_is)
    (case aAk => k_is)
    (case lAk => k_is)
    (case c_Ak => k_is)
    (case k_Ak => k_is)
    (case aBk => k_is)
    (case lBk => k_is)
    (case c_Bk => k_is)
    (case k_Bk => k_is)
    (case aUo => k_is)
    (case lUo => k_is)
    (case c_Uo => k_is)
    (case k_Uo => k_is)
    (case aSa => k_is)
    (case lSa => k_is)
    (case c_Sa => k_is)
    (case k_Sa => k_is)
    (case aUg => k_is)
    (case lUg => k_is)
    (case c_Ug => k_is)
    (case k_Ug => k_is)
    (case aRa => k_is)
    (case lRa => k_is)
    (case c_Ra => k_is)
    (case k_Ra => k_is)
    (case aRu => k_is)
    (case lRu => k_is)
    (case c_Ru => k_is)
    (case k_Ru => k_is)
    (case aUn => k_is)
    (case lUn => k_is)
    (case c_Un => k_is)
    (case k_Un => k_is)
    (case aMg => k_is)
    (case lMg => k_is)
    (case c_Mg => k_is)
    (case k_Mg => k_is)
    (case aFm => k_is)
    (case lFm => k_is)
    (case c_Fm => k_is)
    (case k_Fm => k_is)
    (case aAp => k_is)
    (case lAp => k_is)
    (case c_Ap => k_is)
    (case k_Ap => k_is)
    (case aDi => k_is)
    (case iDi => k_is)
    (case lDi => k_is)
    (case c_Di => k_is)
    (case k_Di => k_is)
    (case aDc => k_is)
    (case iDc => k_is)
    (case lDc => k_is)
    (case c_Dc => k_is)
    (case k_Dc => k_is)
    (case aDf => k_is)
    (case iDf => k_is)
    (case lDf => k_is)
    (case c_Df => k_is)
    (case k_Df => k_is)
    (case aJo => k_is)
    (case lJo => k_is)
    (case c_Jo => k_is)
    (case k_Jo => k_is)
    (case aNn => k_is)
    (case lNn => k_is)
    (case c_Nn => k_is)
    (case k_Nn => k_is)
    (case aPw => k_is)
    (case lPw => k_is)
    (case c_Pw => k_is)
    (case k_Pw => k_is)
    (case aLb => k_is)
    (case lLb => k_is)
    (case c_Lb => k_is)
    (case k_Lb => k_is)
    (case aLd => k_is)
    (case lLd => k_is)
    (case c_Ld => k_is)
    (case k_Ld => k_is)
    (case aLr => k_is)
    (case lLr => k_is)
    (case c_Lr => k_is)
    (case k_Lr => k_is)
    (case aLu => k_is)
    (case lLu => k_is)
    (case c_Lu => k_is)
    (case k_Lu => k_is)
    (case aLw => k_is)
    (case lLw => k_is)
    (case c_Lw => k_is)
    (case k_Lw => k_is)
    (case aLc => k_is)
    (case lLc => k_is)
    (case c_Lc => k_is)
    (case k_Lc => k_is)
    (case aBy => k_is)
    (case lBy => k_is)
    (case c_By => k_is)
    (case k_By => k_is)
    (case aW => k_is)
    (case lW => k_is)
    (case c_W => k_is)
    (case k_W => k_is)
    (case z_abs => k_is)
    (case z_enumerate => k_is)
    (case z_len => k_is)
    (case z_max => k_is)
    (case z_min => k_is)
    (case z_range => k_is)
    (case z_sum => k_is)
    (case gS => k_is)
    (case gL => k_is)
    (case hL => k_is)
    (case kL => exact ⟨⟨_, _, rfl, rfl⟩, ⟨_, _, rfl, rfl⟩, ⟨_, _, rfl, rfl⟩, trivial⟩)
    (case mL => decide)
    (case vL3 => k_is)
    (case vL5 => k_is)
    (case vL4 => k_is)
    (case gN => k_is)
    (case hN => k_is)
    (case gQ => k_is)
    (case hS => k_is)
    (case kS => exact ⟨⟨_, _, rfl, rfl⟩, ⟨_, _, rfl, rfl⟩, ⟨_, _, rfl, rfl⟩, ⟨_, _, rfl, rfl⟩, trivial⟩)
    (case sU => k_is)
    (case hUt => k_is)
    (case sD => k_is)
    (case hDt => k_is)
    (case sM => k_is)
    (case hMt => k_is)
    (case sN => k_is)
    (case hNt => k_is)
