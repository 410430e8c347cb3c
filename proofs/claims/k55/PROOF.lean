import PyProof.Rows.All
import Wide.All
import OpenK.AllK
import Wide.FinOn
import KE.KFromBytes
import KE.KExcSuper
import HandS.Base
import HandS.Call
import HandS.Exc
import HandS.Ends
import HandS.Words
import KE.KExcIs
import HandS.ForExc
import HandS.ForMost
import HandS.IsInst
import HandS.Walk
import HandS.TupAny
import HandS.More
import PyProof.WalkInts
import KE.GoesMore
import PyProof.EnumMake
import PyProof.EnumFor
import HandS.Wide
import HandS.WideMore
import PyProof.ReprBulk
import HandS.MakeKwOnly
import PyProof.StrOps2
import HandS.Dict
import HandS.Style
import PySem.Challenge.RW_lineends_k55_fits_for_far_runs
set_option Elab.async false
set_option linter.all false
set_option maxRecDepth 100000
set_option maxHeartbeats 4000000
/-! An own error class over ValueError, called by position or by keyword: what it leaves. -/
namespace Lx
open PySem PySem.HandSPX
open PySem.W (Looks)
section
variable {M : Model} {prog : Program} {w : World} {A : Around} {E : Value → Shared → Prop} {R : Result → Shared → Prop}
variable {h : Heap} {gn : Array GenState} {dr : Drawn} {tk : Nat} {os : OsState}
variable {nm q : Str} {C N : Addr} {bs bm bmB : List Value} {hd : Bool} {sn : List Str} {sub : List Value} {ab : Bool} {col : Option Bool} {dd : Option Addr} {k0 k1 k2 k3 k5 : Option Value} {B nid iid : String}
/-- the maker's own check, with keywords -/
theorem newCheck (F : ExcBaseFacts B nid iid bmB) (hT : ∀ Y : String, bm.contains (.type Y) = bmB.contains (.type Y)) {pos : List Value} {kw : List (Str × Value)} {Q : Unit → Shared → Prop}
    (hC : h.get? C = some (excClassObj nm q C N bs bm hd sn sub ab col dd k0 k1 k2 k3 k5 nid)) (hq : Q () ⟨h, gn, dr, tk, os⟩) :
    wpAny M A (checkBuiltinCall nid ⟨.ref C :: pos, kw⟩) Q E ⟨h, gn, dr, tk, os⟩ := by
  have c0 : (Value.ref C :: bm).contains (.type B) = true := by
    rw [List.contains_cons, hT, F.hasB, Bool.or_true]
  have c1 := F.noStar
  simp only [checkBuiltinCall, F.newKind, F.newSplit, F.newRow]
  repeat (first
    | refine wpAny_loadPart_at hC ?_
    | (refine wpAny_isSubtype_exc hC ?_; rw [c0])
    | refine wpAny_staticBase_exc hC ?_
    | refine wpAny_madeBy_exc hC ?_
    | simp only [bne_self_eq_false, Bool.false_eq_true, if_false]
    | wp_step)
  exact hq
/-- the maker: the arguments by position alone are laid -/
theorem newMakes (F : ExcBaseFacts B nid iid bmB) (hT : ∀ Y : String, bm.contains (.type Y) = bmB.contains (.type Y)) {pos : List Value} {kw : List (Str × Value)}
    (hC : h.get? C = some (excClassObj nm q C N bs bm hd sn sub ab col dd k0 k1 k2 k3 k5 nid)) (hl : pos.length ≤ sizeLine)
    (hq : R (.ok (.ret (.ref (h.objs.size + 1)))) ⟨(h.push (W.kdv_tup pos)).push (excO C h.objs.size), gn, dr, tk, os⟩) :
    codeAny (model prog w) A (.builtin nid ⟨.ref C :: pos, kw⟩) R ⟨h, gn, dr, tk, os⟩ := by
  have e1 := F.ends
  have c0 : (Value.ref C :: bm).contains (.type B) = true := by
    rw [List.contains_cons, hT, F.hasB, Bool.or_true]
  have c1 : (Value.ref C :: bm).contains (.type "AttributeError") = false := by
    rw [List.contains_cons, hT, F.noAttr]; rfl
  have c2 : (Value.ref C :: bm).contains (.type "NameError") = false := by
    rw [List.contains_cons, hT, F.noName]; rfl
  refine codeAny_builtinAt F.entry ?_
  unfold Builtin.«BaseException.__new__»
  refine wpAt_bind ?_
  show wpAt _ _ _ (stack >>= _) _ _ _
  refine wpAt_bind (wpAt_stack fun p below => wpAt_of_wpAny ?_)
  wp_walk
  refine wpAt_of_wpAny ?_
  rw [F.owner]
  repeat (first
    | with_reducible refine wpAny_madeHere_exc F.canon hC ?_
    | with_reducible refine wpAny_loadPart_at hC ?_
    | (with_reducible refine wpAny_isSubtype_exc hC ?_; first | rw [c0] | rw [c1] | rw [c2])
    | wp_step)
  show R _ _
  rw [Heap.size_push]
  exact hq
/-- the class's call: the maker, then the class's own __init__ -/
theorem typeCalls (F : ExcBaseFacts B nid iid bmB) (hT : ∀ Y : String, bm.contains (.type Y) = bmB.contains (.type Y)) {pos : List Value} {kw : List (Str × Value)} {fI : Addr} {Q : Fin → Shared → Prop}
    (hC : h.get? C = some (excClassObj nm q C N bs bm hd sn sub ab col dd k0 k1 k2 k3 k5 nid))
    (hi : Looks (model prog w) h (typeLookup (.ref C) "__init__") (some (.ref fI))) (hb : ∀ self, Looks (model prog w) h (bindSpecial (.ref fI) self) (.ref fI, [self])) (hl : pos.length ≤ sizeLine)
    (hq : codeAny (model prog w) A (.call (.ref fI) ⟨.ref (h.objs.size + 1) :: pos, kw⟩)
      (fun r s' => match r with | .ok (.ret v) => v = .none ∧ Q (.done (.ret (.ref (h.objs.size + 1)))) s' | .ok _ => False | .error e => E e s')
      ⟨(h.push (W.kdv_tup pos)).push (excO C h.objs.size), gn, dr, tk, os⟩) :
    wpAny (model prog w) A (Builtin.«type.__call__» ⟨.ref C :: pos, kw⟩) Q E ⟨h, gn, dr, tk, os⟩ := by
  repeat (first | with_reducible refine wpAny_loadPart_at hC ?_ | with_reducible refine wpAny_madeBy_exc hC ?_ | wp_step)
  refine codeAny_call_builtin_code (Code.quiet_builtin _ F.quiet) (newCheck F hT hC ?_)
  refine newMakes F hT hC hl ?_
  show wpAny _ _ _ _ _ _
  have kp : ∀ b o, h.get? b = some o → ((h.push (W.kdv_tup pos)).push (excO C h.objs.size)).get? b = some o := fun b o e => Heap.get?_push_of_some _ (Heap.get?_push_of_some _ e)
  have hC1 := kp _ _ hC
  have hg : ((h.push (W.kdv_tup pos)).push (excO C h.objs.size)).get? (h.objs.size + 1) = some (excO C h.objs.size) := by heap_get
  have hs : (Value.ref C :: bm).contains (.ref C) = true := by simp
  have i1 := hi.keeps kp
  have b1 := (hb (.ref (h.objs.size + 1))).keeps kp
  unfold isInstance
  repeat (first | with_reducible refine wpAny_loadPart_at hg ?_ | (with_reducible refine wpAny_isSubtype_exc hC1 ?_; rw [hs]) | wp_step)
  show wpAny _ _ (typeLookup (.ref C) _) _ _ _
  refine i1.at ?_
  refine wpAny_holding (wpAny_bind (b1.at ?_))
  refine wpAny_bind (wpAny_call (codeAny_mono hq fun r s' z => ?_))
  rcases r with e | (v | _ | _ | _) <;> first | exact z | exact z.elim | skip
  obtain ⟨rfl, z⟩ := z
  first
    | exact wpAny_pure (wpAny_pure z)
    | (wp_walk; exact z)
end
end Lx
namespace Lx
open PySem PySem.HandSPX
open PySem.W (Looks)
open L2 (defArgs defBody defScope)
/-! ### the text of an error's __init__ -/
def inA (a b : Pos) : Arguments := { posonlyargs := [], args := [{ arg := "self", annotation := none, pos := a }, { arg := "value", annotation := none, pos := b }], vararg := none, kwonlyargs := [], kw_defaults := [], kwarg := none, defaults := [] }
def inB (msg : Str) (a b c d e f g i j k : Pos) : List Stmt :=
  [.Expr (.Call (.Attribute (.Call (.Name "super" a) [] [] b) "__init__" c) [.Constant (.str msg) 0 d] [] e) f, .Assign [.Attribute (.Name "self" g) "value" i] (.Name "value" j) k]
def SupCall (msg : Str) (a b c d e : Pos) : Prop := ∀ env : Env, ∃ pl : Sem Bool, eval (.Call (.Attribute (.Call (.Name "super" a) [] [] b) "__init__" c) [.Constant (.str msg) 0 d] [] e) env = (do
  let ov ← attributeBase (.Call (.Name "super" a) [] [] b) "__init__" env (eval (.Call (.Name "super" a) [] [] b) env)
  standAt c.atName
  let (f, first) ← holding [ov] (getMethod ov "__init__" pl)
  callWith e f first (backTo e (starEach [.Constant (.str msg) 0 d] env)) [])
def inS : Scope := { kind := .function, names := [(PySem.Str.ofString "self", .local), (PySem.Str.ofString "value", .local), (PySem.Str.ofString "__class__", .free), (PySem.Str.ofString "super", .globalImplicit)], isGenerator := false, isCoroutine := false, more := [] }
/-- what the written part says of the errors' own base, at L -/
structure LineC (K : PySem.W.Frag) (mg : Str → Option Value) (L : Addr) : Prop where
  gL : mg "LineError" = some (.ref L)
  cls : ∃ n q N bs sn sub ab col dd k0 k1 k2 k3 k5, K.lookup L = some (excClassObj n q L N bs HandSPX.veTail true sn sub ab col dd k0 k1 k2 k3 k5 "ValueError.__new__")
  ini : PySem.W.findIn K (.ref L) "__init__" = some (some (.builtin "ValueError.__init__"))
  ty : PySem.W.typeIn K (.ref L) = some (.type "type")
  exB : PySem.W.subIn K (.ref L) (.type "BaseException") = some true
  sup : PySem.W.nsIn K mainGlobals "super" = some none
  opq : PySem.W.nsIn K cStatics "thirdparty.any" = some none
  sp : PySem.W.specialIn K (.builtin "object.__class__") "__get__" = some (some (.builtin "getset_descriptor.__get__"))
  tk : PySem.W.takesIn K (.builtin "object.__class__") = some true
/-- what the written part says of an error class at C, whose base stands at L; st is the text of its __init__, qual that def's long name, nm the class's name -/
structure ErrC (K : PySem.W.Frag) (file : Str) (mg : Str → Option Value) (L : Addr) (nm qual : Str) (st : Stmt) (C : Addr) : Prop where
  gC : mg nm = some (.ref C)
  cls : ∃ n q N bs sn sub ab col dd k0 k1 k2 k3 k5, K.lookup C = some (excClassObj n q C N bs (.ref L :: HandSPX.veTail) true sn sub ab col dd k0 k1 k2 k3 k5 "ValueError.__new__")
  sa : PySem.W.findIn K (.ref C) "__setattr__" = some (some (.builtin "object.__setattr__"))
  ga : PySem.W.findIn K (.ref C) "__getattribute__" = some (some (.builtin "BaseException.__getattribute__"))
  gg : PySem.W.findIn K (.ref C) "__getattr__" = some none
  ca : PySem.W.findIn K (.ref C) "__class__" = some (some (.builtin "object.__class__"))
  nv : PySem.W.findIn K (.ref C) "value" = some none
  ty : PySem.W.typeIn K (.ref C) = some (.type "type")
  kp : PySem.W.keepIn K (.ref C) = true
  init : ∃ fI : Addr, PySem.W.findIn K (.ref C) "__init__" = some (some (.ref fI)) ∧ PySem.W.typeIn K (.ref fI) = some (.type "function") ∧
    ∃ (oc : Value) (od : Option Addr) (doc pm : Value) (an : Option Addr) (cc cda : Addr) (ct : Value) (osl : Array (Option Value)),
      K.lookup fI = some ⟨oc, od, .func (PySem.W.fnX "__init__" qual (defArgs st) (defBody st) (defScope st) [("__class__", cc)] .none .none doc pm an (.ref cda) ct), osl⟩ ∧ PySem.W.codeIn K (.ref cda) qual = true ∧
      (∃ (cl : Value) (cd : Option Addr) (vs : Array Value) (cs : Array (Option Value)) (tf : Tok), K.lookup cda = some ⟨cl, cd, .fields vs, cs⟩ ∧ vs[2]? = some (.str file tf)) ∧
      ∃ (cl : Value) (cd : Option Addr) (cs : Array (Option Value)), K.lookup cc = some ⟨cl, cd, .cell (some (.ref C)), cs⟩
  tA : ∃ a b, defArgs st = inA a b
  tB : ∃ msg a b c d e f g i j k, defBody st = inB msg a b c d e f g i j k ∧ SupCall msg a b c d e
  tS : defScope st = inS
theorem LineC.along {K : PySem.W.Frag} {mg : Str → Option Value} {L : Addr} (T : LineC K mg L) : PySem.W.alongIn K "__init__" (.ref L :: HandSPX.veTail) = some (some (.builtin "ValueError.__init__")) := by
  obtain ⟨n, q, N, bs, sn, sub, ab, col, dd, k0, k1, k2, k3, k5, hL⟩ := T.cls
  have e := T.ini
  simp only [PySem.W.findIn, hL] at e
  exact e
/-- the chain of classes above C -/
theorem ErrC.chain {K : PySem.W.Frag} {file : Str} {mg : Str → Option Value} {L C : Addr} {nm qual : Str} {st : Stmt} (T : ErrC K file mg L nm qual st C) : ∃ cd : ClassData, PySem.W.clsIn K C = some cd ∧ cd.mro = .ref C :: .ref L :: HandSPX.veTail ∧ cd.hasDict = true := by
  obtain ⟨n, q, N, bs, sn, sub, ab, col, dd, k0, k1, k2, k3, k5, hC⟩ := T.cls
  exact ⟨{ name := n, bases := bs, mro := .ref C :: .ref L :: HandSPX.veTail, ns := N, qualname := q, hasDict := true, slotNames := sn, subclasses := sub, abstract := ab, collection := col, hasDel := false }, by unfold PySem.W.clsIn; rw [hC] <;> rfl, rfl, rfl⟩
theorem ErrC.under {K : PySem.W.Frag} {file : Str} {mg : Str → Option Value} {L C : Addr} {nm qual : Str} {st : Stmt} (T : ErrC K file mg L nm qual st C) (b : Value) : PySem.W.mroIn K C b = some ((Value.ref C :: .ref L :: HandSPX.veTail).contains b) := by
  obtain ⟨cd, e1, e2, _⟩ := T.chain
  unfold PySem.W.mroIn
  rw [e1, Option.bind_some, e2]
  rfl
section
variable {prog : Program} {w : World} {A : Around} {E : Value → Shared → Prop} {R : Result → Shared → Prop} {M : Model}
variable {h : Heap} {gn : Array GenState} {dr : Drawn} {tk : Nat} {os : OsState}
variable {nm q : Str} {C N : Addr} {bs bm bmB : List Value} {hdt : Bool} {sn : List Str} {sub : List Value} {ab : Bool} {col : Option Bool} {dd : Option Addr} {k0 k1 k2 k3 k5 : Option Value} {B nid iid : String}
theorem tcCheck {pos : List Value} {kw : List (Str × Value)} {Q : Unit → Shared → Prop} (hC : h.get? C = some (excClassObj nm q C N bs bm hdt sn sub ab col dd k0 k1 k2 k3 k5 nid)) (hq : Q () ⟨h, gn, dr, tk, os⟩) :
    wpAny M A (checkBuiltinCall "type.__call__" ⟨.ref C :: pos, kw⟩) Q E ⟨h, gn, dr, tk, os⟩ := by
  have f3 := tc_sub
  have hT : (⟨h, gn, dr, tk, os⟩ : Shared).TypeIs (.ref C) "type" := ⟨_, hC, rfl⟩
  simp only [checkBuiltinCall, tc_kind, tc_split]
  repeat (any_goals (first | assumption | with_reducible refine wpAny_loadPart_at hC ?_ | with_reducible refine wpAny_onRaise ?_ | with_reducible refine wpAny_map ?_ | wp_step))
theorem clsCalls (F : ExcBaseFacts B nid iid bmB) (hT : ∀ Y : String, bm.contains (.type Y) = bmB.contains (.type Y)) {pos : List Value} {kw : List (Str × Value)} {fI : Addr}
    (hC : h.get? C = some (excClassObj nm q C N bs bm hdt sn sub ab col dd k0 k1 k2 k3 k5 nid))
    (hi : Looks (model prog w) h (typeLookup (.ref C) "__init__") (some (.ref fI))) (hb : ∀ self, Looks (model prog w) h (bindSpecial (.ref fI) self) (.ref fI, [self])) (hl : pos.length ≤ sizeLine)
    (hq : codeAny (model prog w) (A.under (.builtin "type.__call__" ⟨.ref C :: pos, kw⟩)) (.call (.ref fI) ⟨.ref (h.objs.size + 1) :: pos, kw⟩) (W.InitBack (h.objs.size + 1) R)
      ⟨(h.push (W.kdv_tup pos)).push (excO C h.objs.size), gn, dr, tk, os⟩) :
    codeAny (model prog w) A (.call (.ref C) ⟨pos, kw⟩) R ⟨h, gn, dr, tk, os⟩ := by
  have f1 := tc_lookup
  have f2 := tc_bind (.ref C)
  have hTy : (⟨h, gn, dr, tk, os⟩ : Shared).TypeIs (.ref C) "type" := ⟨_, hC, rfl⟩
  refine codeAny_of_tree ?_
  show wpAny _ _ (callAny (.ref C) _) _ _ _
  repeat (any_goals (first | assumption | with_reducible refine wpAny_loadPart_at hC ?_ | wp_step))
  refine ⟨rfl, ?_⟩
  refine codeAny_call_builtin_at (Code.quiet_builtin _ (by decide +kernel)) entry_typeCall (tcCheck hC (typeCalls F hT hC hi hb hl ?_))
  refine codeAny_mono hq fun r s' z => ?_
  rcases r with e | (v | _ | _ | _) <;> exact z
end
end Lx
namespace Lx
open PySem PySem.HandSPX
open PySem.W (Looks)
open L2 (defArgs defBody defScope)
/-- what __init__ leaves of a fresh error at x -/
structure InitLeft (h h' : Heap) (x C dx t1 : Addr) (v : Value) : Prop where
  keep : ∀ b o, b ≠ x → h.get? b = some o → h'.get? b = some o
  obj : h'.get? x = some { cls := .ref C, dict := some dx, data := .fields #[.ref t1, .none, .none, .none, .bool false, .none] }
  big : h.objs.size ≤ dx
  ne : dx ≠ x
  ns : h'.Ns1 dx (fun y => if y = "value" then some v else none)
/-- the two ways in which the value is handed over -/
inductive Hands (v : Value) : List Value → List (Str × Value) → Prop where
  | pos : Hands v [v] []
  | kw : Hands v [] [("value", v)]
section
variable {prog : Program} {w : World} {A : Around} {E : Value → Shared → Prop} {R : Result → Shared → Prop} {M : Model} {s : Shared}
variable {K : PySem.W.Frag} {mg mb : Str → Option Value} {nm qual : Str} {st : Stmt} {C L : Addr}
theorem initRuns (TL : LineC K mg L) (T : ErrC K prog.main.file mg L nm qual st C) {x t0 fI : Addr} {v : Value} {ps : List Value} {kw : List (Str × Value)} (hv : Hands v ps kw) (htop : (prog.main.scope.names.lookup ("super" : Str)).isSome = false)
    (hfI : PySem.W.findIn K (.ref C) "__init__" = some (some (.ref fI))) (X : K.In s.heap) (G : s.heap.Ns mainGlobals mg) (gs : mg "super" = none) (B : s.heap.Ns builtinsNs mb) (bs : mb "super" = some (.type "super"))
    (hlim : s.heap.NoLimit) (hnx : K.lookup x = none) (hx : s.heap.get? x = some (excO C t0)) (hroom : A.depth < recursionLimit)
    (hq : ∀ h' tk dx t1, InitLeft s.heap h' x C dx t1 v → R (.ok (.ret .none)) { s with heap := h', toks := tk }) :
    codeAny (model prog w) A (.call (.ref fI) ⟨.ref x :: ps, kw⟩) R s := by
  obtain ⟨n, q, N, bss, sn, sub, ab, col, dd, k0, k1, k2, k3, k5, hC⟩ := T.cls
  obtain ⟨bm, ebm⟩ : ∃ bm, bm = (Value.ref L :: HandSPX.veTail) := ⟨_, rfl⟩
  rw [← ebm] at hC
  have hbm : refsVE bm = true := by rw [ebm]; rfl
  have hal := TL.along
  rw [← ebm] at hal
  obtain ⟨f2, e2, tI, oc, od, doc, pm, an, cc, cda, ct, osl, ho, hcd, ⟨cl, cd, vs, cs, tf, hco, hvs⟩, cl2, cd2, cs2, hce⟩ := T.init
  rw [hfI] at e2
  obtain rfl : fI = f2 := Value.ref.inj (Option.some.inj (Option.some.inj e2))
  obtain ⟨a1, a2, eA⟩ := T.tA
  obtain ⟨msg, p0, p1, p2, p3, p4, p5, q1, q2, q3, q4, eB, hsc⟩ := T.tB
  rw [eA, eB, T.tS] at ho
  have hcl : PySem.W.clsIn K C = some { name := n, bases := bss, mro := .ref C :: bm, ns := N, qualname := q, hasDict := true, slotNames := sn, subclasses := sub, abstract := ab, collection := col, hasDel := false } := by
    unfold PySem.W.clsIn; rw [hC] <;> rfl
  have hcC : (Value.ref C :: bm).contains (.ref C) = true := by simp
  have hbase : ∀ Y : String, bm.contains (.type Y) = HandSPX.veTail.contains (.type Y) := fun Y => refsVE_contains Y bm hbm
  refine ks_codeAny_call_defAt (fd := PySem.W.fnX "__init__" qual (inA a1 a2) (inB msg p0 p1 p2 p3 p4 p5 q1 q2 q3 q4) inS [("__class__", cc)] .none .none doc pm an (.ref cda) ct) (body := inB msg p0 p1 p2 p3 p4 p5 q1 q2 q3 q4)
    (binds := [("self", .ref x), ("value", v)]) hroom (X _ _ ho) rfl hlim (PySem.W.codeRec_of X hcd) rfl ?_ (show ∀ y ∈ inS.names, y.2 ≠ .cell by decide) (by intro y hy; simp only [List.mem_cons, List.not_mem_nil, or_false] at hy; rcases hy with rfl | rfl <;> rfl) (fun h1 hns hk => ?_) rfl rfl rfl
  · cases hv with
    | pos => exact .of_eq (by first | rfl | with_unfolding_all rfl)
    | kw => exact .of_eq (by first | rfl | with_unfolding_all rfl)
  have X1 : K.In h1 := X.keeps hk
  have hx1 := hk _ _ hx
  have hC1 := X1 _ _ hC
  have hxC : x ≠ C := fun z => by
    rw [z] at hx1
    rw [hC1] at hx1
    cases hx1
  have hL : s.heap.objs.size ≠ x := Nat.ne_of_gt (Heap.lt_size hx)
  obtain ⟨pl, hpl⟩ := hsc (callEnv (PySem.W.fnX "__init__" qual (inA a1 a2) (inB msg p0 p1 p2 p3 p4 p5 q1 q2 q3 q4) inS [("__class__", cc)] .none .none doc pm an (.ref cda) ct) s.heap.objs.size fI)
  refine ks_wpAt_execs_cons (ks_wpAt_Expr_any (ks_wpAt_MethodCall (pl := pl) ?_ hpl))
  refine ks_wpAt_super_base (env := callEnv (PySem.W.fnX "__init__" qual (inA a1 a2) (inB msg p0 p1 p2 p3 p4 p5 q1 q2 q3 q4) inS [("__class__", cc)] .none .none doc pm an (.ref cda) ct) s.heap.objs.size fI) rfl rfl rfl rfl (X1 _ _ ho) rfl rfl rfl (X1 _ _ hco) rfl hvs (by simp) htop ?_
  refine PySem.W.ks_loadName_global rfl rfl (Calls.loadGlobal_builtin (mg := mg) (mb := mb) ?_ gs ?_ bs ⟨rfl, ?_⟩)
  · obtain ⟨o, es, ep, e, r⟩ := G
    exact ⟨o, es, ep, hk _ _ e, r⟩
  · obtain ⟨o, es, ep, e, r⟩ := B
    exact ⟨o, es, ep, hk _ _ e, r⟩
  refine wpAny_loadName_free rfl rfl (c := cc) rfl ⟨_, X1 _ _ hce, rfl⟩ ?_
  refine wpAny_loadName_local (m := fun y => ([("self", .ref x), ("value", v)] : List (Str × Value)).reverse.lookup y) rfl rfl hns rfl ?_
  refine ks_wpAny_isType_cls hC1 rfl ⟨rfl, ?_⟩
  refine ks_wpAny_call_super (C := C) hC1 rfl hx1 rfl (fun c e => by cases e) (PySem.W.looks_mroIn X1 (by unfold PySem.W.mroIn; rw [hcl, Option.bind_some, if_neg (by simp), hcC])) (fun h2 hso k2' => ?_)
  have X2 : K.In h2 := X1.keeps k2'
  have hx2 := k2' _ _ hx1
  have I2 : PySem.W.InstAt h2 x (excO C t0) C none := ⟨hx2, rfl, rfl, trivial⟩
  refine PySem.W.kxs_getMethod PySem.W.kxs_ValueError hso (PySem.W.looks_opaque X2 TL.opq) (l₀ := .ref C :: bm) (l := bm) (fun A' Q' E' s' k' q' => wpAny_bind ((PySem.W.looks_clsIn X2 hcl) A' _ E' s' k' (wpAny_pure q')))
    (by simp [List.dropWhile_cons]) X2 hal (I2.type.andThen (PySem.W.looks_mroIn X2 ((T.under _).trans (by rfl)))) hxC (by decide) ?_
  have k3 : ∀ b o, h2.get? b = some o → (h2.push (PySem.W.kxs_mw "ValueError.__init__" x)).get? b = some o := fun b o e => Heap.get?_push_of_some _ e
  have hu : (h2.push (PySem.W.kxs_mw "ValueError.__init__" x)).get? h2.objs.size = some (PySem.W.kxs_mw "ValueError.__init__" x) := Heap.get?_push_at rfl rfl
  refine PySem.W.kxs_callWith (i := "ValueError.__init__") (x := x) (by rfl) ?_
  refine Calls.evalArgs_plain ?_
  refine Calls.spliced_cons (wpAny_Constant_str (k := 0) (pos := p3) (Calls.spliced_nil ⟨hu, ?_⟩))
  have hone : ([.str msg s.toks] : List Value).length ≤ sizeLine := by rw [sizeLine_eq]; exact (by decide : 1 ≤ 16777216)
  refine wpAny_call (codeAny_of_tree ?_)
  show wpAny _ _ (callAny (.ref h2.objs.size) _) _ _ _
  simp only [callAny]
  refine wpAny_bind (wpAny_load hu ?_)
  simp only [PySem.W.kxs_mw, show (Value.type "method-wrapper" == Value.type "method" || Value.type "method-wrapper" == Value.type "builtin_function_or_method" || Value.type "method-wrapper" == Value.type "method-wrapper") = true by decide, if_true]
  refine PySem.W.KFB.if_so (by decide) ?_
  refine wpAny_bind (PySem.W.check_bound_init F.excBase_ValueError.toExcCallFacts (k3 _ _ (k2' _ _ hC1)) (k3 _ _ hx2) rfl ?_)
  refine wpAny_bind (wpAny_pure (wpAny_pure ?_))
  refine ⟨plainId_quiet F.excBase_ValueError.init.plain _, codeAny_builtin F.excBase_ValueError.initEntry ?_⟩
  refine PySem.W.exc_init_tree (cls := .ref C) (t0 := t0) (dv := none) (c2 := .none) (c3 := .none) (b4 := .bool false) (k3 _ _ hx2) (by rw [sizeLine_eq]; exact (by decide : 1 ≤ 16777216)) (fun h3 k4 hx3 _ => ?_)
  show wpAt _ _ _ (execs _ _) _ _ _
  have keep3 : ∀ b o, b ≠ x → h1.get? b = some o → h3.get? b = some o := fun b o hb e => k4 b o hb (k3 _ _ (k2' _ _ e))
  have hns3 : h3.Ns s.heap.objs.size (fun y => ([("self", .ref x), ("value", v)] : List (Str × Value)).reverse.lookup y) := by
    obtain ⟨o, es, ep, e, r⟩ := hns
    exact ⟨o, es, ep, keep3 _ _ hL e, r⟩
  have X3 : K.In h3 := fun a o e => keep3 a o (fun z => by
    rw [z, hnx] at e
    cases e) (X1 a o e)
  refine ks_wpAt_execs_cons (ks_wpAt_Assign_Attr ?_)
  refine wpAt_of_wpAny (wpAny_Name (wpAny_loadName_local rfl rfl hns3 rfl ?_))
  refine wpAny_Name (wpAny_loadName_local rfl rfl hns3 rfl ?_)
  refine PySem.W.set_plain X3 (ox := excO C _) (od := none) ⟨hx3, rfl, rfl, trivial⟩ T.sa ?_
  refine exc_osa X3 hx3 hcl (show refsVE (.ref C :: bm) = true from hbm) rfl T.nv (fun h4 tk4 dx k5 dn dne hx4 hn4 => ?_)
  refine wpAt_of_wpAny (wpAny_pure ?_)
  refine hq h4 tk4 dx _ ⟨fun b o hb e => k5 b o hb (keep3 b o hb (hk b o e)), hx4, Nat.le_trans (Nat.le_of_lt hns3.lt) dn, dne, hn4⟩
end
end Lx
namespace Lx
open PySem PySem.HandSPX
/-- a made error, at e, its own dict at d -/
structure ErrMade (h h' : Heap) (e C d : Addr) (v : Value) : Prop where
  keep : ∀ b o, h.get? b = some o → h'.get? b = some o
  ebig : h.objs.size ≤ e
  obj : ∃ t1 : Addr, h'.get? e = some { cls := .ref C, dict := some d, data := .fields #[.ref t1, .none, .none, .none, .bool false, .none] }
  dbig : h.objs.size ≤ d
  ne : d ≠ e
  ns : h'.Ns1 d (fun y => if y = "value" then some v else none)
section
variable {prog : Program} {w : World} {A : Around} {R : Result → Shared → Prop} {s : Shared}
variable {K : PySem.W.Frag} {mg mb : Str → Option Value} {nm qual : Str} {st : Stmt} {C L : Addr}
theorem errMade (TL : LineC K mg L) (T : ErrC K prog.main.file mg L nm qual st C) {v : Value} {ps : List Value} {kw : List (Str × Value)} (hv : Hands v ps kw) (htop : (prog.main.scope.names.lookup ("super" : Str)).isSome = false)
    (X : K.In s.heap) (G : s.heap.Ns mainGlobals mg) (gs : mg "super" = none) (B : s.heap.Ns builtinsNs mb) (bs : mb "super" = some (.type "super")) (hlim : s.heap.NoLimit) (hroom : A.depth + 1 < recursionLimit)
    (hq : ∀ h' tk e d, ErrMade s.heap h' e C d v → R (.ok (.ret (.ref e))) { s with heap := h', toks := tk }) : codeAny (model prog w) A (.call (.ref C) ⟨ps, kw⟩) R s := by
  obtain ⟨n, q, N, bss, sn, sub, ab, col, dd, k0, k1, k2, k3, k5, hC⟩ := T.cls
  obtain ⟨fI, iC, tI, _⟩ := T.init
  obtain ⟨hp, g, dr, tk, os⟩ := s
  have kp : ∀ b o, hp.get? b = some o → ((hp.push (W.kdv_tup ps)).push (excO C hp.objs.size)).get? b = some o := fun b o e => Heap.get?_push_of_some _ (Heap.get?_push_of_some _ e)
  have hget : ((hp.push (W.kdv_tup ps)).push (excO C hp.objs.size)).get? (hp.objs.size + 1) = some (excO C hp.objs.size) := by heap_get
  have hnx : K.lookup (hp.objs.size + 1) = none := by
    cases e : K.lookup (hp.objs.size + 1) with
    | none => rfl
    | some o =>
      have z : hp.get? (hp.objs.size + 1) = some o := X _ _ e
      exact absurd (Nat.lt_of_succ_lt (Heap.lt_size z)) (Nat.lt_irrefl _)
  have hl : ps.length ≤ sizeLine := by
    cases hv with
    | pos => rw [sizeLine_eq]; exact (by decide : 1 ≤ 16777216)
    | kw => exact Nat.zero_le _
  refine clsCalls F.excBase_ValueError (fun Y => refsVE_contains Y (.ref L :: HandSPX.veTail) (by rfl)) (X _ _ hC) (W.looks_findIn X iC) (fun self => W.bind_fn X self tI) hl ?_
  refine initRuns (s := ⟨(hp.push (W.kdv_tup ps)).push (excO C hp.objs.size), g, dr, tk, os⟩) TL T hv htop iC (X.keeps kp) ?_ gs ?_ bs (hlim.keeps kp) hnx hget ?_ fun h' tk' dx t1 I => ?_
  · obtain ⟨o, es, ep, e, r⟩ := G
    exact ⟨o, es, ep, kp _ _ e, r⟩
  · obtain ⟨o, es, ep, e, r⟩ := B
    exact ⟨o, es, ep, kp _ _ e, r⟩
  · show A.depth + 1 < recursionLimit
    exact hroom
  · have z : hp.objs.size + 1 + 1 ≤ dx := by
      first
        | (simpa only [Heap.size_push] using I.big)
        | (have q := I.big; rw [Heap.size_push, Heap.size_push] at q; exact q)
    refine ⟨rfl, hq h' tk' (hp.objs.size + 1) dx ⟨fun b o e => I.keep b o (Nat.ne_of_lt (Nat.lt_succ_of_lt (Heap.lt_size e))) (kp b o e), Nat.le_succ _, ⟨t1, I.obj⟩, (show hp.objs.size ≤ dx by omega), I.ne, I.ns⟩⟩
end
end Lx
namespace Lx
open PySem PySem.Spec L2
/-- at e: an error of the class at C, its own dict at d -/
def errO (e C d : Addr) : HO := .ext fun h => ∃ t1 : Addr, h.get? e = some ({ cls := .ref C, dict := some d, data := .fields #[.ref t1, .none, .none, .none, .bool false, .none] } : Obj)
theorem errO_ok {P : Program} {w : World} {H : Hp} {h : Heap} {e C d t1 : Addr} (he : h.get? e = some ({ cls := .ref C, dict := some d, data := .fields #[.ref t1, .none, .none, .none, .bool false, .none] } : Obj)) : ObjOk P w H h e (errO e C d) :=
  ⟨⟨t1, he⟩, ⟨_, he⟩, fun _ _ ⟨t, q⟩ k => ⟨t, k _ q⟩⟩
theorem errO_at {P : Program} {w : World} {H : Hp} {h : Heap} {e C d : Addr} (hok : HOk P w H h) (he : H e = some (errO e C d)) : ∃ t1 : Addr, h.get? e = some ({ cls := .ref C, dict := some d, data := .fields #[.ref t1, .none, .none, .none, .bool false, .none] } : Obj) := by
  have x : ObjOk P w H h e (.ext fun h => ∃ t1 : Addr, h.get? e = some ({ cls := .ref C, dict := some d, data := .fields #[.ref t1, .none, .none, .none, .bool false, .none] } : Obj)) := hok e _ he
  exact x.1
/-- the fields of a made error -/
abbrev vf (v : V) : List (Str × V) := [(("value" : Str), v)]
theorem relO_vf {v : V} {u : Value} (r : RelV v u) (f : Str) : RelO (List.lookup f (vf v)) (if f = "value" then some u else none) := by
  by_cases hw : f = "value"
  · subst hw
    rw [if_pos rfl]
    have q : List.lookup ("value" : Str) (vf v) = some v := by simp [List.lookup]
    rw [q]
    exact r
  · rw [if_neg hw]
    have qw : (f == ("value" : Str)) = false := by simpa using hw
    have q2 : List.lookup f (vf v) = none := by simp [List.lookup, qw]
    rw [q2]
    trivial
section
variable {X : Cx} {pins : List (Addr × Obj)} {σ : St} {H : Hp} {s : Shared}
/-- two new objects laid at once -/
theorem laid2 {h' : Heap} {d e : Addr} {o1 o2 : HO} {t' : Nat} (I : Inv X pins σ H s) (k : ∀ b u, s.heap.get? b = some u → h'.get? b = some u) (hd : s.heap.objs.size ≤ d) (he : s.heap.objs.size ≤ e)
    (ok1 : ObjOk X.prog X.w (upd (upd H d o1) e o2) h' d o1) (ok2 : ObjOk X.prog X.w (upd (upd H d o1) e o2) h' e o2) : Inv X pins σ (upd (upd H d o1) e o2) { s with heap := h', toks := t' } := by
  have nd : H d = none := I.hok.fresh hd
  have ne : H e = none := I.hok.fresh he
  have old : ∀ b o, H b = some o → upd (upd H d o1) e o2 b = some o := fun b o q => by
    rw [upd_ne (ne_of_none q ne), upd_ne (ne_of_none q nd)]
    exact q
  have lt : ∀ (b : Addr) (o : Obj), s.heap.get? b = some o → b ≠ d ∧ b ≠ e := fun b o q => ⟨Nat.ne_of_lt (Nat.lt_of_lt_of_le (Heap.lt_size q) hd), Nat.ne_of_lt (Nat.lt_of_lt_of_le (Heap.lt_size q) he)⟩
  refine I.un (t' := t') ⟨fun b o q _ _ _ => k b o q, fun b o q _ _ _ => ⟨o.slots, k b o q⟩, fun b o q n _ => ?_, fun b o q _ => ⟨o, k b o q⟩, fun b xs q => old _ _ q, fun b o u q => old _ _ q, fun b ps q => ⟨#[], by rw [old _ _ q]; simp⟩⟩ fun b o q => ?_
  · rw [upd_ne (lt b o q).2, upd_ne (lt b o q).1]
    exact n
  · by_cases h1 : b = e
    · subst h1
      rw [upd_same] at q
      cases q
      exact ok2
    · rw [upd_ne h1] at q
      by_cases h2 : b = d
      · subst h2
        rw [upd_same] at q
        cases q
        exact ok1
      · rw [upd_ne h2] at q
        exact (I.hok b o q).stay (fun c v _ z => k c v z) (fun c z => old _ _ z) fun c xs z => old _ _ z
end
/-- C(e), C(value=e): a new error and its dict -/
def tErr (C : Addr) (ta : TE) : TE := fun σ H Q => ta σ H fun v H1 => ∀ d e : Addr, H1 d = none → H1 e = none → d ≠ e → Q (.ref e) (upd (upd H1 d (.xd (vf v))) e (errO e C d))
/-- raise C(e) -/
def tErrR (C : Addr) (ta : TE) : St → Hp → XK → Prop := fun σ H Q => ta σ H fun v H1 => ∀ d : Addr, H1 d = none → Q (.ref C) (some d) (upd H1 d (.xd (vf v)))
section
variable {X : Cx} {C L : Addr} {nm qual : Str} {st : Stmt} {a : Expr} {ta : TE} {p pos kpos : Pos} {k : Nat}
theorem callErr {pins : List (Addr × Obj)} {σ : St} {H : Hp} {s : Shared} {R : Value → Shared → Prop} {E : Value → Shared → Prop} (TL : LineC X.K X.mg L) (T : ErrC X.K X.prog.main.file X.mg L nm qual st C) (hr : Room k X.A) (htop : (X.prog.main.scope.names.lookup ("super" : Str)).isSome = false) (gs : X.mg "super" = none)
    {v : Value} {ps : List Value} {kw : List (Str × Value)} (hv : Hands v ps kw) (I : Inv X pins σ H s)
    (hq : ∀ h' tk e d, ErrMade s.heap h' e C d v → R (.ref e) { s with heap := h', toks := tk }) : wpAny (model X.prog X.w) X.A (call (.ref C) ps kw) R E s := by
  obtain ⟨mb, hB, hb⟩ := I.mod.blt
  refine wpAny_call (errMade TL T hv htop I.kIn (I.mod.glob.keeps I.bk) gs (hB.keeps I.bk) ((hb _ (by decide)).trans (by decide +kernel)) I.nolimit (by have := hr.dp; omega) fun h' tk e d M => hq h' tk e d M)
theorem errEP {pins : List (Addr × Obj)} {σ : St} {H : Hp} {s : Shared} {h' : Heap} {tk : Nat} {e d : Addr} {v : V} {u : Value} {Q : VK} (I : Inv X pins σ H s) (r : RelV v u) (M : ErrMade s.heap h' e C d u)
    (q : ∀ d e : Addr, H d = none → H e = none → d ≠ e → Q (.ref e) (upd (upd H d (.xd (vf v))) e (errO e C d))) : EP X pins σ Q (.ref e) { s with heap := h', toks := tk } := by
  obtain ⟨t1, ho⟩ := M.obj
  exact ⟨.ref e, _, laid2 (o1 := .xd (vf v)) (o2 := errO e C d) I M.keep M.dbig M.ebig ⟨_, M.ns, fun f => relO_vf r f⟩ (errO_ok ho), rfl, q d e (I.hok.fresh M.dbig) (I.hok.fresh M.ebig) M.ne⟩
/-- C(e) as a value -/
theorem pe_err (TL : LineC X.K X.mg L) (T : ErrC X.K X.prog.main.file X.mg L nm qual st C) (hr : Room k X.A) (htop : (X.prog.main.scope.names.lookup ("super" : Str)).isSome = false) (gs : X.mg "super" = none) (hg : Gl X nm) (he : PE X a ta) (hdb : (nm == ("__debug__" : Str)) = false := by decide)
    (hs : starEach [a] X.env = (false, eval a X.env) :: starEach [] X.env := by rfl) (hpl : (backTo pos (starEach [] X.env)).any (·.1) = false := by rfl) : PE X (.Call (.Name nm p) [a] [] pos) (tErr C ta) := by
  refine ⟨fun pins s σ H Q I h => ?_⟩
  refine wpAny_Call_Name_kw (ld_glob I hg T.gC ?_ hdb)
  refine PySem.W.callWith_K (h₀ := X.base) I.ok.mod.kin T.kp ?_ hs hpl
  rw [hs]
  show wpAny _ _ (spliced ((false, eval a X.env) :: backTo pos (starEach [] X.env))) _ _ s
  refine Calls.spliced_cons (thn (he.run pins s σ H _ I h) fun u s1 ⟨v, H1, I1, r1, q1⟩ => ?_)
  refine Calls.spliced_nil ⟨I1.kIn, ?_⟩
  show wpAny _ _ (call (.ref C) [u]) _ _ _
  exact callErr TL T hr htop gs .pos I1 fun h' tk e d M => errEP I1 r1 M q1
/-- C(value=e) as a value -/
theorem pe_errK (TL : LineC X.K X.mg L) (T : ErrC X.K X.prog.main.file X.mg L nm qual st C) (hr : Room k X.A) (htop : (X.prog.main.scope.names.lookup ("super" : Str)).isSome = false) (gs : X.mg "super" = none) (hg : Gl X nm) (he : PE X a ta) (hdb : (nm == ("__debug__" : Str)) = false := by decide)
    (hall : (backToKw pos (keywordEach [⟨some "value", a, kpos⟩] X.env)).all (·.1.isSome) = true := by rfl) (hks : (backToKw pos (keywordEach [⟨some "value", a, kpos⟩] X.env)).filterMap (·.1) = [("value" : Str)] := by rfl)
    (hpl : ((backTo pos (starEach [] X.env)).any (·.1) || (backToKw pos (keywordEach [⟨some "value", a, kpos⟩] X.env)).any (·.1.isNone)) = false := by rfl) : PE X (.Call (.Name nm p) [] [⟨some "value", a, kpos⟩] pos) (tErr C ta) := by
  refine ⟨fun pins s σ H Q I h => ?_⟩
  refine wpAny_Call_Name_kw (ld_glob I hg T.gC ?_ hdb)
  refine PySem.W.callWith_KW0 (h₀ := X.base) I.ok.mod.kin T.kp hall ?_ hpl
  refine thn ((pk_cons he pk_nil).run pos pins s σ H (fun vs H1 => match vs with | [v] => ∀ d e : Addr, H1 d = none → H1 e = none → d ≠ e → Q (.ref e) (upd (upd H1 d (.xd (vf v))) e (errO e C d)) | _ => False) I h) fun us s1 ⟨vs, H1, I1, r1, q1⟩ => ⟨I1.kIn, ?_⟩
  rw [hks]
  cases r1 with
  | nil => exact q1.elim
  | cons rv rn =>
    cases rn with
    | nil => exact callErr TL T hr htop gs .kw I1 fun h' tk e d M => errEP I1 rv M q1
    | cons _ _ => exact q1.elim
/-- raise C(e): what makes the error -/
theorem pmk_err (TL : LineC X.K X.mg L) (T : ErrC X.K X.prog.main.file X.mg L nm qual st C) (hr : Room k X.A) (htop : (X.prog.main.scope.names.lookup ("super" : Str)).isSome = false) (gs : X.mg "super" = none) (hg : Gl X nm) (he : PE X a ta) (hdb : (nm == ("__debug__" : Str)) = false := by decide)
    (hs : starEach [a] X.env = (false, eval a X.env) :: starEach [] X.env := by rfl) (hpl : (backTo pos (starEach [] X.env)).any (·.1) = false := by rfl) : PMk X (.Call (.Name nm p) [a] [] pos) (tErrR C ta) := by
  intro pins s σ H Q I h
  refine wpAny_Call_Name_kw (ld_glob I hg T.gC ?_ hdb)
  refine PySem.W.callWith_K (h₀ := X.base) I.ok.mod.kin T.kp ?_ hs hpl
  rw [hs]
  show wpAny _ _ (spliced ((false, eval a X.env) :: backTo pos (starEach [] X.env))) _ _ s
  refine Calls.spliced_cons (thn (he.run pins s σ H _ I h) fun u s1 ⟨v, H1, I1, r1, q1⟩ => ?_)
  refine Calls.spliced_nil ⟨I1.kIn, ?_⟩
  show wpAny _ _ (call (.ref C) [u]) _ _ _
  refine callErr TL T hr htop gs .pos I1 fun h' tk e d M => ?_
  obtain ⟨t1, hoe⟩ := M.obj
  have hns := M.ns
  obtain ⟨G', g1, g2⟩ := restrict h' fun b => decide (b ≠ e)
  have gk : ∀ b, b ≠ e → G'.get? b = h'.get? b := fun b hb => g1 b (decide_eq_true hb)
  have ge : G'.get? e = none := g2 e (by simp)
  have old : ∀ b o, s1.heap.get? b = some o → G'.get? b = some o := fun b o q => (gk b (Nat.ne_of_lt (Nat.lt_of_lt_of_le (Heap.lt_size q) M.ebig))).trans (M.keep b o q)
  have ob : ObjOk X.prog X.w (upd H1 d (.xd (vf v))) G' d (.xd (vf v)) := ⟨_, hns.at (fun o q => (gk d M.ne).trans q), fun f => relO_vf r1 f⟩
  have J : Inv X pins σ (upd H1 d (.xd (vf v))) { s1 with heap := G', toks := tk } := I1.laid (t' := tk) old M.dbig ob
  have r : Raises X (.ref C) := raises_own ((T.under _).trans (by rfl)) T.ty
  refine ⟨e, _, _, { s1 with heap := G', toks := tk }, _, .ref C, some d, rfl, J, fun b o q => ?_, ge, hoe, ⟨rfl, rfl⟩, rfl, rfl, ?_, rfl, I1.bare, r, q1 d (I1.hok.fresh M.dbig)⟩
  · by_cases hb : b = e
    · have q' : G'.get? b = some o := q
      rw [hb, ge] at q'
      cases q'
    · exact (gk b hb).symm.trans q
  · rw [upd_ne (Ne.symm M.ne)]
    exact I1.hok.fresh M.ebig
/-- the error's class is asked for -/
theorem kitErr (TL : LineC X.K X.mg L) (T : ErrC X.K X.prog.main.file X.mg L nm qual st C) {x : Addr} {ox : Obj} {od : Option Obj} : PySem.W.KitX X.K (.ref x) (.ref C) (fun h => PySem.W.InstAt h x ox C od) := by
  obtain ⟨cd, e1, e2, e3⟩ := T.chain
  exact PySem.W.kitx_exc (by rw [e1]; rfl) T.ga T.gg ((T.under _).trans (by rfl)) T.ca TL.sp TL.tk ((T.under _).trans (by rfl))
/-- isinstance(e, c), e a made error, c a class of the program (at D) or a built-in one -/
def rIsErr (K : PySem.W.Frag) : List V → Hp → VK → Prop := fun xs H Q => ∃ (e C d : Addr) (v : V) (c : V) (u : Value) (b : Bool), xs = [.ref e, c] ∧ H e = some (errO e C d) ∧ H d = some (.xd (vf v)) ∧ ClsV c u ∧ PySem.W.kitOne K (.ref C) u = some b ∧
  (∃ (file : Str) (mg : Str → Option Value) (L : Addr) (nm qual : Str) (st : Stmt), LineC K mg L ∧ ErrC K file mg L nm qual st C) ∧ Q (.bl b) H
theorem call_isErr : CallR X (.builtin "isinstance") (rIsErr X.K) := by
  intro pins s σ H xs us Q I r h
  obtain ⟨e, C', d, v, c, u, b, rfl, he, hd, hc, hk, ⟨file, mg, L', nm', qual', st', TL, T⟩, q⟩ := h
  obtain ⟨u1, u2, rfl, r1, r2⟩ := vals2 r
  obtain rfl : u1 = Value.ref e := r1
  have e2 := hc.eq r2
  subst e2
  obtain ⟨t1, ho⟩ := errO_at I.hok he
  obtain ⟨mA, hns, _⟩ := (show ∃ mA, s.heap.Ns1 d mA ∧ ∀ f, RelO ((vf v).lookup f) (mA f) from I.hok d _ hd)
  obtain ⟨od, hod, _⟩ := lookIn_ns hns
  obtain ⟨cd, q1, q2, q3⟩ := T.chain
  have Z : PySem.W.KitX X.K (.ref e) (.ref C') (fun h => PySem.W.InstAt h e { cls := .ref C', dict := some d, data := .fields #[.ref t1, .none, .none, .none, .bool false, .none] } C' (some od)) :=
    PySem.W.kitx_exc (by rw [q1]; rfl) T.ga T.gg ((T.under _).trans (by rfl)) T.ca TL.sp TL.tk ((T.under _).trans (by rfl))
  exact PySem.W.kia_one Z I.kIn ⟨ho, rfl, rfl, hod⟩ hk (fun z => nomatch z) fun tk => ⟨.bl b, H, I.tok tk, rfl, q⟩
/-- e.value, e a made error -/
def tErrV (K : PySem.W.Frag) (te : TE) : TE := fun σ H Q => te σ H fun x H1 => ∃ (e C d : Addr) (v : V), x = .ref e ∧ H1 e = some (errO e C d) ∧ H1 d = some (.xd (vf v)) ∧
  (∃ (file : Str) (mg : Str → Option Value) (L : Addr) (nm qual : Str) (st : Stmt), LineC K mg L ∧ ErrC K file mg L nm qual st C) ∧ Q v H1
theorem pe_errV {e : Expr} {te : TE} (he : PE X e te) (hb : attributeBase e "value" X.env (eval e X.env) = eval e X.env := by rfl) : PE X (.Attribute e "value" pos) (tErrV X.K te) := by
  refine ⟨fun pins s σ H Q I h => ?_⟩
  refine attr_of hb (thn (he.run pins s σ H _ I h) fun u s1 hh => ?_)
  obtain ⟨x, H1, I1, rx, e', C', d, v, ex, hoe, hd, ⟨file, mg, L', nm', qual', st', TL, T⟩, q⟩ := hh
  subst ex
  obtain rfl : u = Value.ref e' := rx
  obtain ⟨t1, ho⟩ := errO_at I1.hok hoe
  obtain ⟨mA, hns, hr⟩ := (show ∃ mA, s1.heap.Ns1 d mA ∧ ∀ f, RelO ((vf v).lookup f) (mA f) from I1.hok d _ hd)
  obtain ⟨od, hod, hl⟩ := lookIn_ns hns
  have l : List.lookup ("value" : Str) (vf v) = some v := by simp [List.lookup]
  obtain ⟨u, hu, ru⟩ := RelO.some_of (v := v) (o := mA "value") (by rw [← l]; exact hr "value")
  have J : PySem.W.InstAt s1.heap e' { cls := .ref C', dict := some d, data := .fields #[.ref t1, .none, .none, .none, .bool false, .none] } C' (some od) := ⟨ho, rfl, rfl, hod⟩
  obtain ⟨cd, q1, q2, q3⟩ := T.chain
  have hdict : PySem.W.hasDictIn X.K C' = true := by
    unfold PySem.W.hasDictIn
    rw [q1]
    simpa using q3
  exact HandSPX.exc_get I1.kIn J T.ga T.gg ((T.under _).trans (by rfl)) (PySem.W.findObj_own hdict T.nv rfl (by rw [hl, hu])) (handed_of ru) ⟨v, H1, I1.tok _, ru, q⟩
end
end Lx
namespace Lx
open PySem PySem.Spec L2 PyProof.Rows
/-! ### min of a tuple of ints -/
section
variable {prog : Program} {w : World} {A : Around} {E : Value → Shared → Prop} {s : Shared} {l : Addr}
variable {its : List Value} {ns : List Int} {Q : Value → Shared → Prop}
theorem min_rawT (hh : A.handled = none) (hl : s.heap.IsTuple l its.toArray) (hi : IntsAre its ns) (hne : 0 < ns.length)
    (h : ∀ h' tk M t', (∀ b o, s.heap.get? b = some o → h'.get? b = some o) → M ∈ ns → (∀ a, a ∈ ns → M ≤ a) → Q (.int M t') { s with heap := h', toks := tk }) : wpAny (model prog w) A (call (.builtin "min") [.ref l]) Q E s := by
  obtain ⟨xs, e⟩ := hi.allInts.items
  have hn : numsOf (intItems xs).toList = ns := by rw [← e]; exact hi.numsOf
  rw [nums_intItems] at hn
  subst hn
  rw [e] at hl
  have hsz : 0 < xs.size := by simpa using hne
  have hlt : l < s.heap.objs.size := by obtain ⟨_, e, _⟩ := hl; exact Heap.lt_size e
  refine call_min_walk (wpAny_pyIter_tuple hl ?_)
  refine ⟨_, _, _, _, _, _, _, rfl, Walks.tuple (A := A.in1) hh _ l (Nat.ne_of_lt hlt) (intItems xs), ⟨⟨_, Heap.get?_push_size _ rfl, rfl, rfl⟩, hl.at fun o e => Heap.get?_push_of_some _ e⟩, fun b hb => ?_, by simpa [intItems] using hsz, CmpOf.ints_lt (numAt xs) (fun _ _ => intItems_at), fun v h' tk hP hk => ?_⟩
  · show b < (s.heap.push _).objs.size
    rw [Heap.size_push]
    rcases List.mem_cons.mp hb with rfl | hb
    · exact Nat.lt_succ_self _
    · rcases List.mem_cons.mp hb with rfl | hb
      · exact Nat.lt_succ_of_lt hlt
      · cases hb
  · obtain ⟨t, rfl⟩ := intItems_at hP
    obtain ⟨h1, h2⟩ := argBest_lt (numAt xs) (xs.size - 1)
    have hz : (intItems xs).size = xs.size := by simp [intItems]
    refine h h' tk _ t (fun b o e => hk b o (fun hm => Nat.lt_irrefl _ ((List.mem_singleton.mp hm) ▸ Heap.lt_size e)) (Heap.get?_push_of_some _ e)) ?_ fun a ha => ?_
    · rw [numAt_eq]; exact PySem.getD_mem (by rw [List.length_map, Array.length_toList, hz]; omega)
    · obtain ⟨j, hj, rfl⟩ := mem_getD ha
      rw [List.length_map, Array.length_toList] at hj
      rw [← numAt_eq, hz]; exact h2 j (by omega)
end
def rMinT (K : PySem.W.Frag) : List V → Hp → VK → Prop := fun vs H Q => ∃ (a : Addr) (ns : List Int), vs = [V.ref a] ∧ SqT K H a (ns.map V.int) ∧ 0 < ns.length ∧ ∀ m, m ∈ ns → (∀ y, y ∈ ns → m ≤ y) → Q (.int m) H
theorem call_minT {X : Cx} (hc : X.calm = true) : CallR X (.builtin "min") (rMinT X.K) := by
  intro pins s σ H vs us Q I r h
  obtain ⟨a, ns, rfl, hs, hne, q⟩ := h
  obtain ⟨its, rv, hl, _⟩ := I.tuple hs
  rw [Vals.ref1 r]
  exact min_rawT (I.ok.hd hc) (by obtain ⟨o, h1, h2, n, h3⟩ := hl; exact ⟨o, h1, h2, n, h3⟩) rv.ints hne fun h' tk m t' hk h1 h2 => ⟨.int _, H, I.kept hk, ⟨_, rfl⟩, q m h1 h2⟩
/-! ### get of a written dict -/
def tKGet (K : PySem.W.Frag) (w : World) (td ty : TE) : TE := fun σ H Q => td σ H fun x H1 => ∃ a es n, x = .ref a ∧ KDict K w a es n ∧ ty σ H1 fun y H2 => ∃ (z : Str) (r : Option Value) (v : V), y = .str z ∧ PySem.W.nsIn K a z = some r ∧ RelV v (r.getD .none) ∧ Q v H2
theorem pe_kget {X : Cx} {o e : Expr} {apos cpos : Pos} {td ty : TE} (ho : PE X o td) (he : PE X e ty) (m : M1 X o "get" apos e cpos) : PE X (.Call (.Attribute o "get" apos) [e] [] cpos) (tKGet X.K X.w td ty) := by
  refine ⟨fun pins s σ H Q I h => ?_⟩
  refine wpAny_Call_method m.base m.few m.line PySem.F.plainAttrs_dict PySem.F.slot_dict_get PySem.F.type_dict_get (thn (ho.run pins s σ H _ I h) fun u s1 ⟨x, H1, I1, rx, a, es, n, ex, D, q1⟩ => ?_)
  subst ex
  obtain rfl : u = Value.ref a := rx
  have hm1 := PySem.W.mapOf_K (prog := X.prog) (w := X.w) I1.kIn D.at_ D.lit
  refine ⟨hm1.typeIs, fun b q => ?_, ?_⟩
  · cases q
    exact ⟨_, I1.kIn _ _ D.at_, rfl⟩
  rw [m.trees]
  refine Calls.callWith_builtin rfl (Calls.evalArgs_plain (Calls.spliced_cons (thn (he.run pins s1 σ H1 _ I1 q1) fun iv s2 ⟨y, H2, I2, ry, z, r, v, ey, e, rv, q2⟩ => Calls.spliced_nil ?_)))
  subst ey
  obtain ⟨t, rfl⟩ := ry
  have hm2 := PySem.W.mapOf_K (prog := X.prog) (w := X.w) I2.kIn D.at_ D.lit
  refine call_meetsIn PySem.F.slot_dict_get hm2.typeIs PySem.F.entry_dict_get (PySem.F.args_dict_get_2 _ _) (meets_dict_get (strKind X.prog X.w) a (strKind_is X.prog X.w z t) D.low) ⟨_, hm2, ?_⟩
  rw [PySem.W.find_K D.at_ e]
  exact ⟨v, H2, I2.tok _, rv, q2⟩
end Lx
namespace Lx
open PySem PySem.Spec L2
/-! ### enumerate(text) -/
/-- each sign of x with its place, in a new pair -/
def Itx (x : Str) : It :=
  ⟨fun i _ => i < x.cps.size, fun i H v H' => ∃ T c, v = .ref T ∧ H T = none ∧ H' = upd H T (.tup [.int (i : Nat), .str ⟨#[c]⟩]) ∧ x.cps[i]? = some c, fun i _ => x.cps.size ≤ i⟩
theorem turn_enumS {P : Program} {w : World} {K : PySem.W.Frag} {elts : List Expr} {kk : Nat} {tpos : Pos} (x : Str) (t : Tok) (e it : Addr) :
    Turn P w K (.Tuple elts kk tpos) (Itx x) [e, it] e (fun i h => (∃ old, IsEnum h e it ((i : Nat) : Int) old) ∧ h.IsStrIter it (strIterType x) x t i ∧ e ≠ it ∧ i ≤ x.cps.size) where
  mem := by simp
  obj := fun i h st b hb => by
    obtain ⟨⟨old, he⟩, ⟨o, ho, hc, hd⟩, _, _⟩ := st
    have e' : b = e ∨ b = it := by simpa using hb
    rcases e' with z | z
    · rw [z]; exact ⟨_, he, fun v q => nomatch q⟩
    · rw [z]; exact ⟨o, ho, fun v q => by rw [hd] at q; cases q⟩
  keep := fun i h h' st k => by
    obtain ⟨⟨old, he⟩, ⟨o, ho, r⟩, hne, hle⟩ := st
    exact ⟨⟨old, k e (by simp) _ he⟩, ⟨o, k it (by simp) o ho, r⟩, hne, hle⟩
  item := by
    intro X hP hw hK hc i pins s σ H E I hf st hg
    subst hP hw hK
    obtain ⟨⟨old, he⟩, hit, hne, hle⟩ := st
    have hlt : i < x.cps.size := hg
    have hel : e < s.heap.objs.size := Heap.lt_size he
    have hil : it < s.heap.objs.size := by obtain ⟨_, q, _⟩ := hit; exact Heap.lt_size q
    refine wpAny_pyNext_enum_itemD (Draws.text (A := X.A.in1) (I.ok.hd hc) it x t) he hit hlt hne (by simpa using hne) fun u h' tk hP ho hit' hT hsz hk => ?_
    obtain ⟨c, tc, hcx, rfl⟩ := hP
    refine ⟨_, rfl, wpAny_letOwnedTupleGo_enum (s := { s with heap := h', toks := tk + 1 }) ho fun h'' he' sb => ?_⟩
    have hT2 : h''.get? s.heap.objs.size = some { cls := .type "tuple", data := .seq #[.int i tk, .str ⟨#[c]⟩ tc] } := (sb.2 _ (Nat.ne_of_gt hel)).trans hT
    have new : ObjOk X.prog X.w (upd H s.heap.objs.size (.tup [.int (i : Nat), .str ⟨#[c]⟩])) h'' s.heap.objs.size (.tup [.int (i : Nat), .str ⟨#[c]⟩]) :=
      ⟨by show 2 ≤ sizeLine; decide, [.int i tk, .str ⟨#[c]⟩ tc], .cons ⟨_, rfl⟩ (.cons ⟨_, rfl⟩ .nil), ⟨_, hT2, rfl, _, rfl⟩⟩
    have I1 : Inv X pins σ (upd H s.heap.objs.size (.tup [.int (i : Nat), .str ⟨#[c]⟩])) { s with heap := h'', toks := tk + 1 } :=
      I.turnedNew (ch := [e, it]) (fun b ob hb q => (sb.2 b (fun z => hb (by simp [z]))).trans (hk b ob (fun z => hb (by simp [z])) (fun z => hb (by simp [z])) q)) hf (Nat.le_refl _) new
    refine ⟨.ref s.heap.objs.size, _, I1, rfl, ⟨_, c, rfl, I.hok.fresh (Nat.le_refl _), rfl, hcx⟩, ⟨⟨.str ⟨#[c]⟩ tc, ?_⟩, ?_, hne, hlt⟩, fun b hb => ?_⟩
    · have e1 : ((i + 1 : Nat) : Int) = (i : Int) + 1 := by omega
      rw [e1]; exact he'
    · obtain ⟨o, ho2, r⟩ := hit'
      exact ⟨o, (sb.2 it (Ne.symm hne)).trans ho2, r⟩
    · have hb' : b < s.heap.objs.size := by
        have e' : b = e ∨ b = it := by simpa using hb
        rcases e' with z | z
        · rw [z]; exact hel
        · rw [z]; exact hil
      rw [upd_ne (Nat.ne_of_lt hb')]
      exact (hf b hb).1
  done := by
    intro X hP hw hK hc i pins s σ H E I hf st hg
    subst hP hw hK
    obtain ⟨⟨old, he⟩, hit, hne, hle⟩ := st
    obtain ⟨f0, f1, f2, f3, f4, f5⟩ := hf it (by simp)
    have e1 : i = x.cps.size := Nat.le_antisymm hle hg
    subst e1
    exact wpAny_pyNext_enum_endD (Draws.text (A := X.A.in1) (I.ok.hd hc) it x t) he hit fun h' eb => ⟨rfl, I.turned (t' := s.toks) (fun b o hb q => eb b o hb q) f0 f1 f3 f4 f5⟩
  self := fun A i s Q E st h => let ⟨⟨_, he⟩, _⟩ := st; PySem.wpAny_pyIter_enum he h
def iEnumS (ta : TA) : TI := fun σ H R => ta σ H fun vs H1 => ∃ x, vs = [.str x] ∧ R (Itx x) H1
theorem pi_enumS {X : Cx} {e : Expr} {ta : TA} {p pos tpos : Pos} {elts : List Expr} {kk : Nat} (hg : Gl X "enumerate") (hm : X.mg "enumerate" = none) (ha : PA X [e] ta) (hs : starEach [e] X.env = [(false, eval e X.env)] := by rfl) :
    PI X (.Tuple elts kk tpos) (.Call (.Name "enumerate" p) [e] [] pos) (iEnumS ta) := by
  refine ⟨fun pins s σ H R I h => ?_⟩
  refine PyProof.Rows.Call_ (ld_blt I hg hm PyProof.Rows.boot_enumerate (PyProof.Rows.callWith_type1 (thn (ha.run pos pins s σ H _ I h) fun us s1 ⟨vs, H1, I1, r1, q1⟩ => ?_) hs rfl))
  obtain ⟨x, ex, q⟩ := q1
  subst ex
  cases r1 with
  | cons r rr =>
    cases rr
    obtain ⟨t, rfl⟩ := r
    refine call_enumerate_str fun h' he hit hsz hk => PySem.wpAny_pyIter_enum he ?_
    have I2 : Inv X pins σ H1 { s1 with heap := h' } := I1.kept (t' := s1.toks) hk
    refine ⟨s1.heap.objs.size + 1, [s1.heap.objs.size + 1, s1.heap.objs.size], _, _, H1, rfl, I2, turn_enumS x t (s1.heap.objs.size + 1) s1.heap.objs.size, ⟨⟨.none, he⟩, hit, Nat.succ_ne_self _, Nat.zero_le _⟩, fun b hb => ?_, q⟩
    have e' : b = s1.heap.objs.size + 1 ∨ b = s1.heap.objs.size := by simpa using hb
    have hle : s1.heap.objs.size ≤ b := by
      rcases e' with z | z
      · rw [z]; exact Nat.le_add_right _ _
      · rw [z]; exact Nat.le_refl _
    exact I1.fpOk hle (I1.hok.fresh hle)
theorem walk_enumS {z : Str} : Walk (Itx z) z.cps.size (fun _ => True) (YPair (fun i => some (.int (i : Nat))) (fun i => z.cps[i]?.map fun c => V.str ⟨#[c]⟩)) :=
  ⟨fun _ _ hi _ => hi, fun _ _ => Nat.le_refl _, fun i H v H' _ _ y => by
    obtain ⟨T, c, h1, h2, h3, h4⟩ := y
    exact ⟨T, .int (i : Nat), .str ⟨#[c]⟩, h1, h2, h3, rfl, by simp [h4]⟩⟩
end Lx
namespace Lx
open PySem PySem.Spec L2
/-! ### sizes of numbers -/
def Sm (n : Nat) (x : Int) : Prop := x.natAbs < 2 ^ n
theorem Sm.mono {n m : Nat} {x : Int} (h : Sm n x) (k : n ≤ m) : Sm m x := Nat.lt_of_lt_of_le h (Nat.pow_le_pow_right (by decide) k)
theorem Sm.add {n : Nat} {x y : Int} (h : Sm n x) (k : Sm n y) : Sm (n + 1) (x + y) := by
  unfold Sm at *
  have := Nat.pow_succ 2 n
  omega
theorem Sm.mul {n m : Nat} {x y : Int} (h : Sm n x) (k : Sm m y) : Sm (n + m) (x * y) := by
  unfold Sm at *
  rw [Int.natAbs_mul, Nat.pow_add]
  exact Nat.mul_lt_mul'' h k
theorem Sm.of_le {n : Nat} {x y : Int} (h0 : 0 ≤ x) (h1 : x ≤ y) (k : Sm n y) : Sm n x := by
  unfold Sm at *
  omega
/-! ### forms -/
inductive Fm
  | keep (b a : Int)
  | lf (b a k c : Int)
  | cr (b a k : Int)
namespace Fm
def vs : Fm → List V
  | keep b a => [.str "keep", .int b, .int a]
  | lf b a k c => [.str "lf", .int b, .int a, .int k, .int c]
  | cr b a k => [.str "cr", .int b, .int a, .int k]
def nm : Fm → Str
  | keep _ _ => "keep"
  | lf _ _ _ _ => "lf"
  | cr _ _ _ => "cr"
def b : Fm → Int
  | keep b _ => b
  | lf b _ _ _ => b
  | cr b _ _ => b
def a : Fm → Int
  | keep _ a => a
  | lf _ a _ _ => a
  | cr _ a _ => a
/-- the number of ^ in front of a break with j of them -/
def after (f : Fm) (j : Int) : Int := (if j - f.b > 0 then j - f.b else 0) + f.a
def ahead (b' a' : Int) : Fm → Fm
  | keep _ _ => keep b' a'
  | lf _ _ k c => lf b' a' k c
  | cr _ _ k => cr b' a' k
def both : Fm → Fm → Fm
  | keep b a, g => ahead (b + (if g.b - a > 0 then g.b - a else 0)) ((if a - g.b > 0 then a - g.b else 0) + g.a) g
  | lf b a k c, keep b' a' => lf b a k (after (keep b' a') c)
  | cr b a k, keep _ _ => cr b a k
  | lf b a k c, lf b' a' k' c' => lf b a (k * (after (lf b' a' k' c') c + 1) * k') c'
  | lf b a k c, cr b' a' k' => cr b a (k * (after (cr b' a' k') c + 1) * k')
  | cr b a k, lf _ _ k' c' => lf b a (k * 1 * k') c'
  | cr b a k, cr _ _ k' => cr b a (k * 1 * k')
/-- a form, its numbers below 2 ^ n -/
def Ok (n : Nat) : Fm → Prop
  | keep b a => 0 ≤ b ∧ 0 ≤ a ∧ Sm n b ∧ Sm n a
  | lf b a k c => 0 ≤ b ∧ 0 ≤ a ∧ 0 < k ∧ 0 ≤ c ∧ Sm n b ∧ Sm n a ∧ Sm n k ∧ Sm n c
  | cr b a k => 0 ≤ b ∧ 0 ≤ a ∧ 0 < k ∧ Sm n b ∧ Sm n a ∧ Sm n k
def nums : Fm → List Int
  | keep b a => [b, a]
  | lf b a k c => [b, a, k, c]
  | cr b a k => [b, a, k]
theorem Ok.mono {n m : Nat} (h : n ≤ m) : ∀ {f : Fm}, Ok n f → Ok m f
  | keep _ _, ⟨h1, h2, h3, h4⟩ => ⟨h1, h2, h3.mono h, h4.mono h⟩
  | lf _ _ _ _, ⟨h1, h2, h3, h4, h5, h6, h7, h8⟩ => ⟨h1, h2, h3, h4, h5.mono h, h6.mono h, h7.mono h, h8.mono h⟩
  | cr _ _ _, ⟨h1, h2, h3, h4, h5, h6⟩ => ⟨h1, h2, h3, h4.mono h, h5.mono h, h6.mono h⟩
theorem Ok.b0 {n : Nat} : ∀ {f : Fm}, Ok n f → 0 ≤ f.b ∧ Sm n f.b
  | keep _ _, h => ⟨h.1, h.2.2.1⟩
  | lf _ _ _ _, h => ⟨h.1, h.2.2.2.2.1⟩
  | cr _ _ _, h => ⟨h.1, h.2.2.2.1⟩
theorem Ok.a0 {n : Nat} : ∀ {f : Fm}, Ok n f → 0 ≤ f.a ∧ Sm n f.a
  | keep _ _, h => ⟨h.2.1, h.2.2.2⟩
  | lf _ _ _ _, h => ⟨h.2.1, h.2.2.2.2.2.1⟩
  | cr _ _ _, h => ⟨h.2.1, h.2.2.2.2.1⟩
theorem after_ok {n : Nat} {f : Fm} (h : Ok n f) {j : Int} (h0 : 0 ≤ j) (hj : Sm n j) : 0 ≤ after f j ∧ Sm (n + 1) (after f j) := by
  have hb := h.b0
  have ha := h.a0
  unfold after
  unfold Sm at *
  have := Nat.pow_succ 2 n
  split <;> omega
theorem vs1 (f : Fm) : f.vs[1]? = some (.int f.b) := by cases f <;> rfl
theorem vs2 (f : Fm) : f.vs[2]? = some (.int f.a) := by cases f <;> rfl
theorem vs0 (f : Fm) : f.vs[0]? = some (.str f.nm) := by cases f <;> rfl
end Fm
def FmAt (K : PySem.W.Frag) (H : Hp) (x : V) (f : Fm) : Prop := ∃ p, x = .ref p ∧ SqT K H p f.vs
theorem sameT {K : PySem.W.Frag} {H H' : Hp} {a : Addr} {xs : List V} (e : Same H H') (h : SqT K H a xs) : SqT K H' a xs := by
  rcases h with (h | ⟨o, h⟩) | h
  · exact .inl (.inl (e _ _ h))
  · exact .inl (.inr ⟨o, e _ _ h⟩)
  · exact .inr h
theorem FmAt.same {K : PySem.W.Frag} {H H' : Hp} {x : V} {f : Fm} (e : Same H H') : FmAt K H x f → FmAt K H' x f := fun ⟨p, h1, h2⟩ => ⟨p, h1, sameT e h2⟩
/-! ### runs -/
/-- a group: a tuple that is tracked -/
def PrAt (H : Hp) (v : V) (x : Int × Int) : Prop := ∃ p, v = .ref p ∧ H p = some (.tup [.int x.1, .int x.2])
inductive Prs (K : PySem.W.Frag) (H : Hp) : List V → List (Int × Int) → Prop
  | nil : Prs K H [] []
  | cons {v : V} {vs : List V} {x : Int × Int} {xs : List (Int × Int)} : PrAt H v x → Prs K H vs xs → Prs K H (v :: vs) (x :: xs)
theorem Prs.same {K : PySem.W.Frag} {H H' : Hp} (e : Same H H') : ∀ {vs : List V} {gs : List (Int × Int)}, Prs K H vs gs → Prs K H' vs gs
  | _, _, .nil => .nil
  | _, _, .cons ⟨p, h1, h2⟩ t => .cons ⟨p, h1, e _ _ h2⟩ (t.same e)
theorem Prs.len {K : PySem.W.Frag} {H : Hp} : ∀ {vs : List V} {gs : List (Int × Int)}, Prs K H vs gs → vs.length = gs.length
  | _, _, .nil => rfl
  | _, _, .cons _ t => by rw [List.length_cons, List.length_cons, t.len]
theorem Prs.get {K : PySem.W.Frag} {H : Hp} : ∀ {vs : List V} {gs : List (Int × Int)}, Prs K H vs gs → ∀ {i : Nat} {v : V}, vs[i]? = some v → ∃ x, gs[i]? = some x ∧ PrAt H v x
  | _, _, .nil, i, v, h => by simp at h
  | _, _, .cons h1 t, 0, v, h => by
    have e := Option.some.inj h
    subst e
    exact ⟨_, rfl, h1⟩
  | _, _, .cons h1 t, i + 1, v, h => t.get (i := i) h
theorem Prs.append {K : PySem.W.Frag} {H : Hp} : ∀ {vs ws : List V} {gs hs : List (Int × Int)}, Prs K H vs gs → Prs K H ws hs → Prs K H (vs ++ ws) (gs ++ hs)
  | _, _, _, _, .nil, h => h
  | _, _, _, _, .cons a t, h => .cons a (t.append h)
def GsAt (K : PySem.W.Frag) (H : Hp) (l : Addr) (gs : List (Int × Int)) : Prop := ∃ xs, SqL K H l xs ∧ Prs K H xs gs
def RnAt (K : PySem.W.Frag) (H : Hp) (x : V) (l : Addr) (r : List (Int × Int) × Int) : Prop := ∃ p, x = .ref p ∧ SqT K H p [.ref l, .int r.2] ∧ GsAt K H l r.1
theorem GsAt.same {K : PySem.W.Frag} {H H' : Hp} {l : Addr} {gs : List (Int × Int)} (e : Same H H') : GsAt K H l gs → GsAt K H' l gs := fun ⟨xs, h1, h2⟩ => ⟨xs, e.seq h1, h2.same e⟩
theorem RnAt.same {K : PySem.W.Frag} {H H' : Hp} {x : V} {l : Addr} {r : List (Int × Int) × Int} (e : Same H H') : RnAt K H x l r → RnAt K H' x l r := fun ⟨p, h1, h2, h3⟩ => ⟨p, h1, sameT e h2, h3.same e⟩
/-- groups as the document wants them, numbers below 2 ^ n -/
def GsOk (n : Nat) (gs : List (Int × Int)) : Prop := ∀ (i : Nat) (x : Int × Int), gs[i]? = some x → 1 ≤ x.1 ∧ 0 ≤ x.2 ∧ Sm n x.1 ∧ Sm n x.2 ∧ ∀ y : Int × Int, gs[i + 1]? = some y → y.2 ≠ x.2
structure RnOk (n : Nat) (r : List (Int × Int) × Int) : Prop where
  gs : GsOk n r.1
  rest : 0 ≤ r.2 ∧ Sm n r.2
  len : r.1.length ≤ 1000
def addTo (acc : List (Int × Int)) (x : Int × Int) : List (Int × Int) := match acc.getLast? with
  | some y => if y.2 = x.2 then acc.dropLast ++ [(y.1 + x.1, x.2)] else acc ++ [x]
  | none => acc ++ [x]
def merged (gs : List (Int × Int)) : List (Int × Int) := gs.foldl addTo []
def moved (f : Fm) (gs : List (Int × Int)) : List (Int × Int) := gs.map fun x => (x.1, f.after x.2)
def total (gs : List (Int × Int)) : Int := (gs.map fun x => x.1 * (x.2 + 1)).sum
def units (r : List (Int × Int) × Int) (f : Fm) : Int := total (moved f r.1) + r.2
def runAfter (r : List (Int × Int) × Int) : Fm → List (Int × Int) × Int
  | .keep b a => (merged (moved (.keep b a) r.1), r.2)
  | .lf b a k c => if k * units r (.lf b a k c) = 0 then ([], 0) else ([(k * units r (.lf b a k c), c)], 0)
  | .cr b a k => ([], k * units r (.cr b a k))
end Lx
namespace Lw
open PySem PySem.Spec L2 Lx
def topS (i : Nat) : Stmt := PySem.Challenge.pw_lineends_k55_fits_for_far_runs.main.body.getD i (.Pass ⟨0, 0, 0, 0⟩)
abbrev sChkRun : Stmt := topS 6
abbrev sIsRun : Stmt := topS 7
abbrev sChkForm : Stmt := topS 8
abbrev sIsForm : Stmt := topS 9
abbrev sSigns : Stmt := topS 11
abbrev sRunAft : Stmt := topS 12
abbrev sRou : Stmt := topS 13
abbrev sUnits : Stmt := topS 14
abbrev sUog : Stmt := topS 15
abbrev sMerged : Stmt := topS 16
abbrev sFits : Stmt := topS 18
abbrev sCheckPairs : Stmt := topS 19
abbrev sFitsAll : Stmt := topS 20
abbrev sLPool : Stmt := topS 22
abbrev sLDraw : Stmt := topS 23
abbrev sLUnits : Stmt := topS 24
abbrev sLPutTogether : Stmt := topS 25
abbrev sLFormed : Stmt := topS 26
abbrev sLShape : Stmt := topS 27
abbrev sLFarRun : Stmt := topS 28
abbrev sLChanged : Stmt := topS 29
abbrev sLRight : Stmt := topS 30
abbrev sLaw : Stmt := topS 31
end Lw
namespace Lx
open PySem PySem.Spec L2
/-! ### one form after another -/
theorem addTo_none (x : Int × Int) : addTo [] x = [x] := rfl
theorem addTo_end (a : List (Int × Int)) (y x : Int × Int) : addTo (a ++ [y]) x = if y.2 = x.2 then a ++ [(y.1 + x.1, x.2)] else a ++ [y] ++ [x] := by
  unfold addTo
  rw [List.getLast?_concat]
  simp
theorem ends {α : Type} : ∀ l : List α, l = [] ∨ ∃ a x, l = a ++ [x]
  | [] => .inl rfl
  | x :: l => by
    rcases ends l with rfl | ⟨a, y, rfl⟩
    · exact .inr ⟨[], x, rfl⟩
    · exact .inr ⟨x :: a, y, rfl⟩
theorem merged_snoc (xs : List (Int × Int)) (x : Int × Int) : merged (xs ++ [x]) = addTo (merged xs) x := by
  unfold merged
  rw [List.foldl_append]
  rfl
theorem addTo_addTo (a : List (Int × Int)) (m m' j : Int) : addTo (addTo a (m, j)) (m', j) = addTo a (m + m', j) := by
  rcases ends a with rfl | ⟨b, z, rfl⟩
  · show addTo ([] ++ [(m, j)]) (m', j) = [(m + m', j)]
    rw [addTo_end, if_pos rfl]
    rfl
  · rw [addTo_end, addTo_end]
    by_cases e : z.2 = j
    · rw [if_pos e, if_pos e, addTo_end, if_pos rfl, Int.add_assoc]
    · rw [if_neg e, if_neg e, addTo_end, if_pos rfl]
def on (h : Int → Int) (gs : List (Int × Int)) : List (Int × Int) := gs.map fun x => (x.1, h x.2)
theorem on_snoc (h : Int → Int) (a : List (Int × Int)) (x : Int × Int) : on h (a ++ [x]) = on h a ++ [(x.1, h x.2)] := by
  unfold on
  rw [List.map_append]
  rfl
theorem merged_on_addTo (h : Int → Int) (a : List (Int × Int)) (x : Int × Int) : merged (on h (addTo a x)) = addTo (merged (on h a)) (x.1, h x.2) := by
  rcases ends a with rfl | ⟨b, y, rfl⟩
  · rfl
  · rw [addTo_end]
    by_cases e : y.2 = x.2
    · rw [if_pos e, on_snoc, merged_snoc, on_snoc, merged_snoc, ← e, addTo_addTo]
    · rw [if_neg e, on_snoc, merged_snoc]
theorem merged_on (h : Int → Int) (n : Nat) : ∀ xs : List (Int × Int), xs.length = n → merged (on h (merged xs)) = merged (on h xs) := by
  induction n with
  | zero =>
    intro xs hx
    rw [List.eq_nil_of_length_eq_zero hx]
    rfl
  | succ n ih =>
    intro xs hx
    rcases ends xs with rfl | ⟨a, x, rfl⟩
    · rfl
    · rw [merged_snoc, merged_on_addTo, ih a (by simpa using hx), on_snoc, merged_snoc]
theorem total_snoc (a : List (Int × Int)) (x : Int × Int) : total (a ++ [x]) = total a + x.1 * (x.2 + 1) := by
  unfold total
  rw [List.map_append, List.sum_append]
  simp
theorem total_addTo (h : Int → Int) (a : List (Int × Int)) (x : Int × Int) : total (on h (addTo a x)) = total (on h a) + x.1 * (h x.2 + 1) := by
  rcases ends a with rfl | ⟨b, y, rfl⟩
  · show total ([] ++ [(x.1, h x.2)]) = total [] + _
    rw [total_snoc]
  · rw [addTo_end]
    by_cases e : y.2 = x.2
    · rw [if_pos e, on_snoc, total_snoc, on_snoc, total_snoc, e, Int.add_mul, Int.add_assoc]
    · rw [if_neg e, on_snoc, total_snoc]
theorem total_on (h : Int → Int) (n : Nat) : ∀ xs : List (Int × Int), xs.length = n → total (on h (merged xs)) = total (on h xs) := by
  induction n with
  | zero =>
    intro xs hx
    rw [List.eq_nil_of_length_eq_zero hx]
    rfl
  | succ n ih =>
    intro xs hx
    rcases ends xs with rfl | ⟨a, x, rfl⟩
    · rfl
    · rw [merged_snoc, total_addTo, ih a (by simpa using hx), on_snoc, total_snoc]
theorem moved_on (f : Fm) (gs : List (Int × Int)) : moved f gs = on f.after gs := rfl
theorem on_on (h h' : Int → Int) (gs : List (Int × Int)) : on h' (on h gs) = on (fun j => h' (h j)) gs := by
  unfold on
  rw [List.map_map]
  rfl
theorem posI (x : Int) : 0 ≤ (if x > 0 then x else 0) ∧ ((if x > 0 then x else 0) = x ∨ ((if x > 0 then x else 0) = 0 ∧ x ≤ 0)) := by
  by_cases h : x > 0
  · rw [if_pos h]; omega
  · rw [if_neg h]; omega
theorem after_both (b a : Int) (g : Fm) (j : Int) : g.after ((Fm.keep b a).after j) = ((Fm.keep b a).both g).after j := by
  have e : ∀ b' a' : Int, (if (if j - b > 0 then j - b else 0) + a - b' > 0 then (if j - b > 0 then j - b else 0) + a - b' else 0) + a' =
      (if j - (b + (if b' - a > 0 then b' - a else 0)) > 0 then j - (b + (if b' - a > 0 then b' - a else 0)) else 0) + ((if a - b' > 0 then a - b' else 0) + a') := by
    intro b' a'
    have p1 := posI (j - b)
    have p2 := posI (b' - a)
    have p3 := posI (a - b')
    generalize (if j - b > 0 then j - b else 0) = A at *
    generalize (if b' - a > 0 then b' - a else 0) = B at *
    generalize (if a - b' > 0 then a - b' else 0) = C at *
    have p4 := posI (A + a - b')
    have p5 := posI (j - (b + B))
    generalize (if A + a - b' > 0 then A + a - b' else 0) = D at *
    generalize (if j - (b + B) > 0 then j - (b + B) else 0) = E at *
    omega
  cases g with
  | keep b' a' => exact e b' a'
  | lf b' a' k c => exact e b' a'
  | cr b' a' k => exact e b' a'
theorem units_both (r : List (Int × Int) × Int) (b a : Int) (g : Fm) : units (runAfter r (.keep b a)) g = units r ((Fm.keep b a).both g) := by
  show total (moved g (merged (moved (.keep b a) r.1))) + r.2 = total (moved _ r.1) + r.2
  rw [moved_on, total_on _ _ _ rfl, moved_on, on_on, moved_on]
  have e : (fun j => g.after ((Fm.keep b a).after j)) = ((Fm.keep b a).both g).after := funext fun j => after_both b a g j
  rw [e]
theorem units_one (n c : Int) (g : Fm) : units ([(n, c)], 0) g = n * (g.after c + 1) := by
  show total ([] ++ [(n, g.after c)]) + 0 = _
  rw [total_snoc]
  show 0 + n * (g.after c + 1) + 0 = _
  omega
theorem units_none (n : Int) (g : Fm) : units ([], n) g = n := by
  show (0 : Int) + n = n
  omega
theorem runAfter_both (r : List (Int × Int) × Int) (f g : Fm) : runAfter (runAfter r f) g = runAfter r (f.both g) := by
  cases f with
  | keep b a =>
    have hu := units_both r b a g
    cases g with
    | keep b' a' =>
      show (merged (moved (.keep b' a') (merged (moved (.keep b a) r.1))), r.2) = (merged (moved _ r.1), r.2)
      rw [moved_on, merged_on _ _ _ rfl, moved_on, on_on, moved_on]
      have e : (fun j => (Fm.keep b' a').after ((Fm.keep b a).after j)) = ((Fm.keep b a).both (.keep b' a')).after := funext fun j => after_both b a _ j
      rw [e]
      rfl
    | lf b' a' k' c' =>
      show (if k' * units (runAfter r (.keep b a)) (.lf b' a' k' c') = 0 then (([] : List (Int × Int)), (0 : Int)) else ([(k' * units (runAfter r (.keep b a)) (.lf b' a' k' c'), c')], 0)) = _
      rw [hu]
      rfl
    | cr b' a' k' =>
      show (([] : List (Int × Int)), k' * units (runAfter r (.keep b a)) (.cr b' a' k')) = _
      rw [hu]
      rfl
  | lf b a k c =>
    by_cases z : k * units r (.lf b a k c) = 0
    · rw [show runAfter r (.lf b a k c) = ([], 0) from if_pos z]
      cases g with
      | keep b' a' =>
        show (([] : List (Int × Int)), (0 : Int)) = if k * units r (.lf b a k c) = 0 then ([], 0) else _
        rw [if_pos z]
      | lf b' a' k' c' =>
        have e : k * ((Fm.lf b' a' k' c').after c + 1) * k' * units r (.lf b a k c) = 0 := by
          rw [show k * ((Fm.lf b' a' k' c').after c + 1) * k' * units r (.lf b a k c) = ((Fm.lf b' a' k' c').after c + 1) * k' * (k * units r (.lf b a k c)) by
            simp only [Int.mul_assoc, Int.mul_comm, Int.mul_left_comm], z, Int.mul_zero]
        show (if k' * units ([], 0) (.lf b' a' k' c') = 0 then (([] : List (Int × Int)), (0 : Int)) else _) = if k * ((Fm.lf b' a' k' c').after c + 1) * k' * units r (.lf b a k c) = 0 then ([], 0) else _
        rw [units_none, Int.mul_zero, if_pos rfl, if_pos e]
      | cr b' a' k' =>
        have e : k * ((Fm.cr b' a' k').after c + 1) * k' * units r (.lf b a k c) = 0 := by
          rw [show k * ((Fm.cr b' a' k').after c + 1) * k' * units r (.lf b a k c) = ((Fm.cr b' a' k').after c + 1) * k' * (k * units r (.lf b a k c)) by
            simp only [Int.mul_assoc, Int.mul_comm, Int.mul_left_comm], z, Int.mul_zero]
        show (([] : List (Int × Int)), k' * units ([], 0) (.cr b' a' k')) = ([], k * ((Fm.cr b' a' k').after c + 1) * k' * units r (.lf b a k c))
        rw [units_none, Int.mul_zero, e]
    · rw [show runAfter r (.lf b a k c) = ([(k * units r (.lf b a k c), c)], 0) from if_neg z]
      cases g with
      | keep b' a' =>
        show (merged [(k * units r (.lf b a k c), (Fm.keep b' a').after c)], (0 : Int)) = if k * units r (.lf b a k c) = 0 then ([], 0) else ([(k * units r (.lf b a k c), (Fm.keep b' a').after c)], 0)
        rw [if_neg z]
        rfl
      | lf b' a' k' c' =>
        show (if k' * units ([(k * units r (.lf b a k c), c)], 0) (.lf b' a' k' c') = 0 then (([] : List (Int × Int)), (0 : Int)) else ([(k' * units ([(k * units r (.lf b a k c), c)], 0) (.lf b' a' k' c'), c')], 0)) =
          if k * ((Fm.lf b' a' k' c').after c + 1) * k' * units r (.lf b a k c) = 0 then ([], 0) else ([(k * ((Fm.lf b' a' k' c').after c + 1) * k' * units r (.lf b a k c), c')], 0)
        rw [units_one, show k' * (k * units r (.lf b a k c) * ((Fm.lf b' a' k' c').after c + 1)) = k * ((Fm.lf b' a' k' c').after c + 1) * k' * units r (.lf b a k c) by
          simp only [Int.mul_assoc, Int.mul_comm, Int.mul_left_comm]]
      | cr b' a' k' =>
        show (([] : List (Int × Int)), k' * units ([(k * units r (.lf b a k c), c)], 0) (.cr b' a' k')) = ([], k * ((Fm.cr b' a' k').after c + 1) * k' * units r (.lf b a k c))
        rw [units_one, show k' * (k * units r (.lf b a k c) * ((Fm.cr b' a' k').after c + 1)) = k * ((Fm.cr b' a' k').after c + 1) * k' * units r (.lf b a k c) by
          simp only [Int.mul_assoc, Int.mul_comm, Int.mul_left_comm]]
  | cr b a k =>
    cases g with
    | keep b' a' => rfl
    | lf b' a' k' c' =>
      show (if k' * units ([], k * units r (.cr b a k)) (.lf b' a' k' c') = 0 then (([] : List (Int × Int)), (0 : Int)) else ([(k' * units ([], k * units r (.cr b a k)) (.lf b' a' k' c'), c')], 0)) =
        if k * 1 * k' * units r (.cr b a k) = 0 then ([], 0) else ([(k * 1 * k' * units r (.cr b a k), c')], 0)
      rw [units_none, Int.mul_one, show k' * (k * units r (.cr b a k)) = k * k' * units r (.cr b a k) by simp only [Int.mul_assoc, Int.mul_comm, Int.mul_left_comm]]
    | cr b' a' k' =>
      show (([] : List (Int × Int)), k' * units ([], k * units r (.cr b a k)) (.cr b' a' k')) = ([], k * 1 * k' * units r (.cr b a k))
      rw [units_none, Int.mul_one, show k' * (k * units r (.cr b a k)) = k * k' * units r (.cr b a k) by simp only [Int.mul_assoc, Int.mul_comm, Int.mul_left_comm]]
end Lx
/-! promises of defs that are called where no repr is at work -/
namespace Lx
open PySem PySem.Spec L2
open PyProof.Rows (AllBare IntsAre)
/-- as FnOk, at callers in which no guarded call (a repr, a comparison) runs -/
structure FnG (P : Program) (w : World) (K : PySem.W.Frag) (mg : Str → Option Value) (base : Heap) (CX : CXT) (k : Nat) (f : Addr) (fd : FuncData) (ps : List Str) (sp : Sp) : Prop where
  len : ∀ vs H Q E, sp vs H Q E → vs.length = ps.length
  go : ∀ (A : Around) (outer : List Env) (s : Shared) (H : Hp) (args : Args) (us : List Value) (vs : List V) (Q : VK) (E : XK), Room k A → A.guards = some [] → Env0 P w K mg base A outer s H → BindsTo s fd args (ps.zip us) → Vals vs us → sp vs H Q E →
    codeAny (model P w) A (.call (.ref f) args) (CR CX outer P w H s Q E) s
section
variable {P : Program} {w : World} {K : PySem.W.Frag} {mg : Str → Option Value} {base : Heap} {CX : CXT}
theorem FnG.of {k : Nat} {f : Addr} {fd : FuncData} {ps : List Str} {sp : Sp} (F : FnOk P w K mg base CX k f fd ps sp) : FnG P w K mg base CX k f fd ps sp :=
  ⟨F.len, fun A outer s H args us vs Q E hr _ he hb hv hs => F.run A outer s H args us vs Q E hr he hb hv hs⟩
/-- a def's promise by its body -/
theorem okG {x qual : Str} {st : Stmt} {f : Addr} {fd : FuncData} {N ps : List Str} {k : Nat} {sp : Sp} (F : Fun K x qual st f fd) (S : FnScope N ps (defScope st)) (len : ∀ vs H Q E, sp vs H Q E → vs.length = ps.length)
    (hb : ∀ (cdv : Value) (A : Around) (outer : List Env) (s : Shared) (H : Hp) (vs : List V) (Q : VK) (E : XK), Room k (A.deeper (PyProof.Rows.envOfC qual (defScope st) s.heap.objs.size f cdv)) → A.guards = some [] → sp vs H Q E →
      ∃ t, PSs (cxOf CX P w K mg base N qual (defScope st) f cdv A outer s H E) (defBody st) t ∧ t { nx := fun _ H' => Q .non H', rt := Q } (start N vs) H) : FnG P w K mg base CX (k + 1) f fd ps sp := by
  obtain ⟨oc, od, kV, doc, pm, an, cdv, ct, osl, rfl, lk, hcd⟩ := F.ex
  refine ⟨len, fun A outer s H args us vs Q E hr hg e0 hbd r hsp => ?_⟩
  have X : K.In s.heap := e0.mod.kin.keeps fun b o e => (e0.bs b o e).1
  have lim : s.heap.NoLimit := e0.mod.nolimit.keeps fun b o e => (e0.bs b o e).1
  refine codeAny_call_function hr.depth (X _ _ lk) rfl S.co S.gen rfl (PySem.W.codeRec_of X hcd) (hbd _ _ _ _ ?_)
  refine wpAny_newFunctionEnv_cells S.kind (fun y hy => ?_) fun env he s1 x1 => ?_
  · obtain ⟨n, v⟩ := y
    rcases S.par n (List.of_mem_zip hy).1 with q | q
    · exact .inl q
    · exact .inr ⟨q, PySem.W.cellsFrom_some _ _ _ (.inl q)⟩
  · subst he
    refine ⟨lim.keeps x1.toInCall.keep, codeAny_func ?_⟩
    obtain ⟨t, ht, hq⟩ := hb cdv A outer s H vs Q E (hr.deeper _) hg hsp
    have I := inv_start (CX := CX) (E := E) S hr.hd e0 (len _ _ _ _ hsp) r x1
    refine wpAny_mono (ht.run [] s1 (start N vs) H _ I hq) (fun fl s2 z => ?_) fun _ _ z => z
    rcases fl with _ | _ | _ | u
    all_goals first
      | (obtain ⟨_, _, _, q⟩ := z; exact q.elim)
      | (obtain ⟨σ2, H2, J, q⟩ := z; exact ⟨V.non, H2, J.os, J.bare, J.base, J.hok, rfl, q⟩)
      | (obtain ⟨v2, σ2, H2, J, rv, q⟩ := z; exact ⟨v2, H2, J.os, J.bare, J.base, J.hok, rv, q⟩)
end
section
variable {X : Cx} {CX : CXT} {k : Nat} {f : Addr} {fd : FuncData} {ps : List Str} {sp : Sp} {dvs : List V} {ds : List Value} {E : XK} {x : Str} {p pos : Pos} {e : Expr} {es : List Expr} {t : TA}
/-- f(e, ..) -/
theorem pe_callG (F : FnG X.prog X.w X.K X.mg X.base CX k f fd ps sp) (hG : X.A.guards = some []) (hr : Room k X.A) (hg : Gl X x) (hm : X.mg x = some (.ref f)) (hk : PySem.W.keepIn X.K (.ref f) = true) (hb : Binds X.K fd ps ds) (hd : Vals dvs ds) (hx : Passes CX X E)
    (ha : PA X (e :: es) t) (hdb : (x == ("__debug__" : Str)) = false := by decide) (he : starEach (e :: es) X.env = (false, eval e X.env) :: starEach es X.env := by rfl) (hpl : (backTo pos (starEach es X.env)).any (·.1) = false := by rfl) :
    PE X (.Call (.Name x p) (e :: es) [] pos) (tCall sp dvs E t) := by
  refine ⟨fun pins s σ H Q I h => ?_⟩
  refine wpAny_Call_Name_kw (ld_glob I hg hm ?_ hdb)
  refine PySem.W.callWith_K (h₀ := X.base) I.ok.mod.kin hk (thn (ha.run pos pins s σ H _ I h) fun us s1 ⟨vs, H1, I1, r, q⟩ => ⟨I1.kIn, ?_⟩) he hpl
  have r2 : Vals (vs ++ dvs) (us ++ ds) := r.append hd
  have hl : (us ++ ds).length = ps.length := by rw [← r2.length]; exact F.len _ _ _ _ q
  show wpAny _ _ (call (.ref f) us) _ _ _
  refine wpAny_call (codeAny_mono (F.go X.A X.stack s1 H1 ⟨us, []⟩ (us ++ ds) (vs ++ dvs) Q E hr hG I1.env0 (hb s1 us I1.kIn hl) r2 q) fun res s' hq => ?_)
  rcases res with er | fl
  · exact hx pins σ H1 s1 er s' I1 hq
  · rcases fl with _ | _ | _ | u
    all_goals first
      | exact I1.after hq
      | exact False.elim hq
end
/-- the heap in which nothing but the script is told -/
def onlyAt (a : Addr) (o : Obj) (ns : List Int) : Hp := fun b => if b = a then some (.frz o (.lst (ns.map V.int))) else none
section
variable {P : Program} {w : World} {K : PySem.W.Frag} {mg mb : Str → Option Value} {CX : CXT} {k : Nat} {fa a : Addr} {fd : FuncData} {x : Str} {sp : Sp} {s : Shared} {vs : List Value} {ns : List Int}
/-- the law's call, from an abstract heap that tells of the script at most -/
theorem lawFrom (KX : K.In s.heap) (hns : s.heap.Ns mainGlobals mg) (hbl : s.heap.Ns builtinsNs mb) (hbb : ∀ x : Str, x ≠ "__name__" → mb x = bootBuiltins x) (hlim : s.heap.NoLimit) (hg : s.gens = #[]) {o : Obj} (ho : s.heap.get? a = some o) (hdict : ∀ es ep, o.data ≠ .dict es ep)
    (hr : Room k callerA) (F : ∀ base : Heap, K.In base → base.Ns mainGlobals mg → FnG P w K mg base CX k fa fd [x] sp) (hbind : ∀ (s : Shared) (u : Value), BindsTo s fd ⟨[u], []⟩ [(x, u)])
    (H : Hp) (hok : HOk P w H s.heap) (hA : ∀ b, H b ≠ none → b = a ∧ K.lookup a = none ∧ H a = some (.frz o (.lst (ns.map V.int)))) (hsp : sp [.ref a] H (fun v _ => v = .bl true) fun _ _ _ => False) (hCX : ∀ e s', CX [] H s (fun _ _ _ => False) e s' → False) :
    codeAny (model P w) callerA (.call (.ref fa) ⟨[.ref a], []⟩) (fun r s' => r = .ok (.ret (.bool true)) ∧ OldK s.heap s'.heap ∧ s'.os = s.os ∧ AllBare s'.gens) s := by
  have free : ∀ {b : Addr} {u : Obj}, s.heap.get? b = some u → (∃ es ep, u.data = .dict es ep) → H b = none := fun {b u} e ⟨es, ep, d⟩ => by
    cases q : H b with
    | none => rfl
    | some z =>
      obtain ⟨rfl, _, _⟩ := hA b (by rw [q]; simp)
      rw [ho] at e
      cases e
      exact (hdict es ep d).elim
  have nsK : ∀ {b : Addr} {m : Str → Option Value}, s.heap.Ns b m → (hidT s.heap H).Ns b m := fun {b m} ⟨u, es, ep, e, d, r⟩ => ⟨u, es, ep, hidT_get e (free e ⟨es, ep, d⟩), d, r⟩
  have kb : K.In (hidT s.heap H) := fun b u e => hidT_get (KX b u e) (by
    cases q : H b with
    | none => rfl
    | some z =>
      obtain ⟨rfl, q2, _⟩ := hA b (by rw [q]; simp)
      rw [q2] at e
      cases e)
  have hM : Mod K mg (hidT s.heap H) := ⟨kb, nsK hns, ⟨mb, nsK hbl, hbb⟩, let ⟨mc, h1, h2⟩ := hlim; ⟨mc, nsK h1, h2⟩⟩
  have e0 : Env0 P w K mg (hidT s.heap H) callerA [] s H := ⟨rfl, hM, fun b u e => of_hidT e, Nat.le_of_eq (hidT_size _ _), trivial, fun b hb => absurd (show b ∈ ([] : List Addr) from hb) (by simp), hok, .of_eq hg⟩
  refine codeAny_mono ((F _ kb (nsK hns)).go callerA [] s H ⟨[.ref a], []⟩ [.ref a] [.ref a] _ _ hr rfl e0 (hbind s (.ref a)) (.cons rfl .nil) hsp) fun r s' h => ?_
  rcases r with e | fl
  · exact (hCX e s' h).elim
  · rcases fl with _ | _ | _ | u
    all_goals first
      | exact False.elim h
      | skip
    obtain ⟨v, H', os, bare, un, hok', r', q⟩ := h
    obtain rfl : v = .bl true := q
    obtain rfl : u = Value.bool true := r'
    refine ⟨rfl, OldK.of_keep fun b u e => ?_, os, bare⟩
    cases q : H b with
    | none => exact un.keep b u e q (fun z => absurd (show b ∈ ([] : List Addr) from z) (by simp)) (by simp)
    | some z =>
      obtain ⟨rfl, _, q3⟩ := hA b (by rw [q]; simp)
      obtain ⟨e2, _⟩ := hok' b _ (un.frzs b o _ q3)
      rw [ho] at e
      cases e
      exact e2
theorem lawCall (KX : K.In s.heap) (hns : s.heap.Ns mainGlobals mg) (hbl : s.heap.Ns builtinsNs mb) (hbb : ∀ x : Str, x ≠ "__name__" → mb x = bootBuiltins x) (hlim : s.heap.NoLimit) (hg : s.gens = #[])
    (ha : s.heap.get? a = some { cls := .type "list", data := .seq vs.toArray }) (hi : IntsAre vs ns) (hl : ns.length ≤ sizeLine) (hr : Room k callerA)
    (F : ∀ base : Heap, K.In base → base.Ns mainGlobals mg → FnG P w K mg base CX k fa fd [x] sp) (hbind : ∀ (s : Shared) (u : Value), BindsTo s fd ⟨[u], []⟩ [(x, u)])
    (hsp : ∀ H : Hp, SqL K H a (ns.map V.int) → sp [.ref a] H (fun v _ => v = .bl true) fun _ _ _ => False) (hCX : ∀ H e s', CX [] H s (fun _ _ _ => False) e s' → False) :
    codeAny (model P w) callerA (.call (.ref fa) ⟨[.ref a], []⟩) (fun r s' => r = .ok (.ret (.bool true)) ∧ OldK s.heap s'.heap ∧ s'.os = s.os ∧ AllBare s'.gens) s := by
  have rv := vals_ints hi
  cases hk : K.lookup a with
  | some o =>
    have e := KX a o hk
    rw [ha] at e
    cases e
    refine lawFrom KX hns hbl hbb hlim hg ha (fun _ _ z => by cases z) hr F hbind (ns := ns) (fun _ => none) (fun b u z => by cases z) (fun b z => absurd rfl z) (hsp _ ?_) (hCX _)
    exact .inr ⟨_, vs.toArray, _, hk, rfl, rfl, rfl, by rw [List.size_toArray, hi.length]; exact hl, by simpa using rv⟩
  | none =>
    refine lawFrom KX hns hbl hbb hlim hg ha (fun _ _ z => by cases z) hr F hbind (ns := ns) (onlyAt a { cls := .type "list", data := .seq vs.toArray } ns) (fun b u z => ?_) (fun b z => ?_) (hsp _ (.inl (.inr ⟨_, if_pos rfl⟩))) (hCX _)
    · by_cases hb : b = a
      · have q := (if_pos hb).symm.trans z
        cases q
        subst hb
        exact ⟨ha, by rw [List.length_map]; exact hl, vs, _, rv, ha⟩
      · have q := (if_neg hb).symm.trans z
        cases q
    · by_cases hb : b = a
      · exact ⟨hb, hk, if_pos rfl⟩
      · exact absurd (if_neg hb) z
end
/-- the end of a law's row -/
theorem endG {l : PySem.W.OpenLaw} {n k : Nat} {q : Program} {loose : List Str} {XP : (Str → Option Value) → Heap → Prop} {YP : World → Heap → Prop} {d : DefRec} {K : Params → PySem.W.Frag} {CX : World → CXT} {sp : World → Sp} {x : Str}
    (hn : l.most = some n) (hn2 : n ≤ sizeLine) (hdf : d.params.defaults = []) (hr : Room k callerA) (hY : ∀ (w : World) (h : Heap), YP w h → (K w.params).In h)
    (F : ∀ (w : World) (mg : Str → Option Value) (fa : Addr) (h : Heap), (K w.params).In h → h.Ns mainGlobals mg → mg d.name = some (.ref fa) →
      ∃ fd : FuncData, (∀ (s : Shared) (u : Value), BindsTo s fd ⟨[u], []⟩ [(x, u)]) ∧ ∀ base : Heap, (K w.params).In base → base.Ns mainGlobals mg → FnG l.prog w (K w.params) mg base (CX w) k fa fd [x] (sp w))
    (hsp : ∀ (w : World) (H : Hp) (a : Addr) (ns : List Int), ns.length ≤ n → SqL (K w.params) H a (ns.map V.int) → sp w [.ref a] H (fun v _ => v = .bl true) fun _ _ _ => False)
    (hCX : ∀ (w : World) (H : Hp) (s : Shared) (e : Value) (s' : Shared), CX w [] H s (fun _ _ _ => False) e s' → False) : PySem.W.WalkO q loose XP YP l.row.toRowW d [] (fun f vs => PySem.call f vs) := by
  refine Att.attach_call hn hdf fun w s₀ s₁ mg mb fa o pm cd doc a vs ns G Y ho hd hcd hmg hobj hints hlen hg => ?_
  obtain ⟨fd, hb, hF⟩ := F w mg fa _ (hY w _ Y) G.T.g hmg
  exact lawCall (hY w _ Y) G.T.g G.T.b G.T.builtins G.T.nolimit hg hobj hints (Nat.le_trans hlen hn2) hr hF hb (fun H hS => hsp w H a ns hlen hS) fun H e s' => hCX w H s₁ e s'
end Lx
namespace Lx
open PySem PySem.Spec L2
/-! ### repr of data -/
structure Fit (d : PyData) : Prop where
  can : d.showable = true
  no : d.hasDict = false
  dep : d.depth ≤ 40
  len : d.shown.length ≤ sizeLine
/-- repr(x), x data -/
def rRepr (K : PySem.W.Frag) : List V → Hp → VK → Prop := fun xs H Q => ∃ x d, xs = [x] ∧ Dp K H x d ∧ Fit d ∧ Q (.str d.shown) H
theorem call_reprD {X : Cx} (hG : X.A.guards = some []) (hu : X.A.units + 64 < cLine) : CallR X (.builtin "repr") (rRepr X.K) := by
  intro pins s σ H xs us Q I r h
  obtain ⟨x, d, rfl, hd, F, q⟩ := h
  obtain ⟨u, rfl, r1⟩ := vals1 r
  obtain ⟨as, rd⟩ := Dp.reads I d x u hd r1
  have big : ∀ a : Addr, u = .ref a → wpAny (model X.prog X.w) X.A (call (.builtin "repr") [u]) (EP X pins σ Q) X.xe s := fun a e => by
    subst e
    exact repr_of_reads' rd F.can (PyData.noDict_hsm F.no) hG (by have := F.dep; omega) (fun _ _ e => e) (fun h' t tk kp => ⟨.str d.shown, H, I.kept (t' := tk) kp, ⟨t, rfl⟩, q⟩) F.len
  cases hd with
  | non =>
    cases r1
    exact P.repr_of_none ⟨.str _, H, I.tok _, ⟨_, rfl⟩, q⟩
  | bl b =>
    cases r1
    exact P.repr_of_bool ⟨.str _, H, I.tok _, ⟨_, rfl⟩, by cases b <;> exact q⟩
  | int i =>
    obtain ⟨t, rfl⟩ := r1
    exact P.repr_of_int (of_decide_eq_true F.can) ⟨.str _, H, I.tok _, ⟨_, rfl⟩, q⟩
  | str y =>
    obtain ⟨t, rfl⟩ := r1
    exact P.repr_of_str ⟨.str _, H, I.tok _, ⟨_, rfl⟩, q⟩ F.len
  | lst _ _ => exact big _ r1
  | tup _ _ => exact big _ r1
/-! ### which class is which -/
section
variable {K : PySem.W.Frag} {file : Str} {mg : Str → Option Value} {L C D : Addr} {nm qual nm2 qual2 : Str} {st st2 : Stmt}
theorem ErrC.some_ (T : ErrC K file mg L nm qual st C) : (PySem.W.clsIn K C).isSome = true := by
  obtain ⟨cd, e, _⟩ := T.chain
  rw [e]; rfl
theorem LineC.some_ (T : LineC K mg L) : (PySem.W.clsIn K L).isSome = true := by
  obtain ⟨n, q, N, bs, sn, sub, ab, col, dd, k0, k1, k2, k3, k5, hL⟩ := T.cls
  unfold PySem.W.clsIn
  rw [hL] <;> rfl
theorem kit_ref {b : Bool} (h1 : (PySem.W.clsIn K D).isSome = true) (h2 : PySem.W.typeIn K (.ref D) = some (.type "type")) (T : ErrC K file mg L nm qual st C) (h : (Value.ref C :: .ref L :: HandSPX.veTail).contains (.ref D) = b) : PySem.W.kitOne K (.ref C) (.ref D) = some b := by
  unfold PySem.W.kitOne
  by_cases e : C = D
  · subst e
    have z : (Value.ref C == Value.ref C) = true := by simp
    rw [if_pos z, ← h]
    simp
  · have z : ¬ (Value.ref C == Value.ref D) = true := by simpa using e
    rw [if_neg z]
    show (if ((PySem.W.clsIn K D).isSome && PySem.W.typeIn K (.ref D) == some (.type "type")) = true then PySem.W.subIn K (.ref C) (.ref D) else none) = some b
    rw [h1, h2, if_pos (by rfl)]
    exact (T.under _).trans (by rw [h])
theorem kit_err (T : ErrC K file mg L nm qual st C) (T2 : ErrC K file mg L nm2 qual2 st2 D) (hD : D ≠ L) : PySem.W.kitOne K (.ref C) (.ref D) = some (decide (C = D)) := by
  refine kit_ref T2.some_ T2.ty T ?_
  rw [List.contains_cons, List.contains_cons]
  have e1 : (Value.ref D == Value.ref L) = false := by simpa using hD
  have e2 : List.contains HandSPX.veTail (Value.ref D) = false := by rfl
  rw [e1, e2]
  by_cases e : C = D
  · subst e; simp
  · have z : (Value.ref D == Value.ref C) = false := by simpa using Ne.symm e
    rw [z, decide_eq_false e]; rfl
theorem kit_line (TL : LineC K mg L) (T : ErrC K file mg L nm qual st C) : PySem.W.kitOne K (.ref C) (.ref L) = some true := kit_ref TL.some_ TL.ty T (by simp)
theorem kit_ve (T : ErrC K file mg L nm qual st C) : PySem.W.kitOne K (.ref C) (.type "ValueError") = some true := by
  unfold PySem.W.kitOne
  rw [if_neg (by simp)]
  show (if PySem.W.kitMeta "ValueError" = true then PySem.W.subIn K (.ref C) (.type "ValueError") else none) = some true
  rw [if_pos (by decide +kernel)]
  exact (T.under _).trans (by rfl)
end
/-! ### data that repr can write -/
/-- ints below 2 ^ 400, texts of plain signs -/
def small : PyData → Bool
  | .none | .bool _ => true
  | .int i => decide (i.natAbs < 2 ^ 400)
  | .str x => x.cps.toList.all fun c => decide (c < 128)
  | .list xs | .tuple xs => smallAll xs
  | .dict _ => false
where smallAll : List PyData → Bool
  | [] => true
  | x :: xs => small x && smallAll xs
theorem int_log {i : Int} (h : i.natAbs < 2 ^ 400) : i.natAbs.log2 < 400 := PySem.Flt.log2_lt_of (by decide) h
theorem int_shown {i : Int} (h : i.natAbs < 2 ^ 400) : (PyData.shown (.int i)).length ≤ 401 := by
  have e := int_text_length_le (k := 400) (by decide) (int_log h)
  show (Str.ofString (toString i)).length ≤ 401
  rw [ofString_length]
  omega
mutual
theorem small_can : ∀ d : PyData, small d = true → d.showable = true
  | .none, _ => rfl
  | .bool _, _ => rfl
  | .int i, h => by
    have e := int_log (of_decide_eq_true (show decide (i.natAbs < 2 ^ 400) = true by simpa only [small] using h))
    simp only [PyData.showable]
    exact decide_eq_true (by omega)
  | .str _, _ => rfl
  | .list xs, h => by
    simp only [PyData.showable]
    exact small_canAll xs (by simpa only [small] using h)
  | .tuple xs, h => by
    simp only [PyData.showable]
    exact small_canAll xs (by simpa only [small] using h)
  | .dict _, h => by simp [small] at h
theorem small_canAll : ∀ xs : List PyData, small.smallAll xs = true → PyData.showableAll xs = true
  | [], _ => rfl
  | x :: xs, h => by
    have h' : small x = true ∧ small.smallAll xs = true := by simpa only [small.smallAll, Bool.and_eq_true] using h
    simp only [PyData.showableAll, Bool.and_eq_true]
    exact ⟨small_can x h'.1, small_canAll xs h'.2⟩
end
mutual
theorem small_no : ∀ d : PyData, small d = true → d.hasDict = false
  | .none, _ => rfl
  | .bool _, _ => rfl
  | .int i, h => rfl
  | .str _, _ => rfl
  | .list xs, h => by
    simp only [PyData.hasDict]
    exact small_noAll xs (by simpa only [small] using h)
  | .tuple xs, h => by
    simp only [PyData.hasDict]
    exact small_noAll xs (by simpa only [small] using h)
  | .dict _, h => by simp [small] at h
theorem small_noAll : ∀ xs : List PyData, small.smallAll xs = true → PyData.hasDictAll xs = false
  | [], _ => rfl
  | x :: xs, h => by
    have h' : small x = true ∧ small.smallAll xs = true := by simpa only [small.smallAll, Bool.and_eq_true] using h
    simp only [PyData.hasDictAll, Bool.or_eq_false_iff]
    exact ⟨small_no x h'.1, small_noAll xs h'.2⟩
end
mutual
theorem small_leaves : ∀ d : PyData, small d = true → d.leavesShort 401 = true
  | .none, _ => rfl
  | .bool _, _ => rfl
  | .int i, h => by
    have e := int_shown (of_decide_eq_true (show decide (i.natAbs < 2 ^ 400) = true by simpa only [small] using h))
    simp only [PyData.leavesShort]
    exact decide_eq_true e
  | .str x, h => by
    simp only [PyData.leavesShort, List.all_eq_true, decide_eq_true_eq]
    simp only [small, List.all_eq_true, decide_eq_true_eq] at h
    intro c hc
    exact Nat.lt_of_lt_of_le (h c hc) (by decide)
  | .list xs, h => by
    simp only [PyData.leavesShort]
    exact small_leavesAll xs (by simpa only [small] using h)
  | .tuple xs, h => by
    simp only [PyData.leavesShort]
    exact small_leavesAll xs (by simpa only [small] using h)
  | .dict _, h => by simp [small] at h
theorem small_leavesAll : ∀ xs : List PyData, small.smallAll xs = true → PyData.leavesShortAll 401 xs = true
  | [], _ => rfl
  | x :: xs, h => by
    have h' : small x = true ∧ small.smallAll xs = true := by simpa only [small.smallAll, Bool.and_eq_true] using h
    simp only [PyData.leavesShortAll, Bool.and_eq_true]
    exact ⟨small_leaves x h'.1, small_leavesAll xs h'.2⟩
end
theorem fit_small {d : PyData} (h : small d = true) (hd : d.depth ≤ 40) (hb : d.bulk ≤ 40000) : Fit d := by
  refine ⟨small_can d h, small_no d h, hd, ?_⟩
  have e := PyData.shown_le_bulk 401 (by decide) d (small_leaves d h)
  have e2 : (401 + 2) * d.bulk ≤ 403 * 40000 := Nat.mul_le_mul (by decide) hb
  rw [sizeLine_eq]
  omega
end Lx
namespace Lx
open PySem PySem.Spec L2 PyProof.Rows
/-! ### f(k = v, ..) of a def -/
section
variable {X : Cx} {CX : CXT} {k : Nat} {f : Addr} {fd : FuncData} {ps ks : List Str} {sp : Sp} {E : XK} {x : Str} {p pos : Pos} {kws : List Keyword} {tk : TA} {g : List Value → List Value → List Value} {gV : List V → List V → List V}
theorem pe_callK0 (F : FnOk X.prog X.w X.K X.mg X.base CX k f fd ps sp) (hr : Room k X.A) (hg : Gl X x) (hm : X.mg x = some (.ref f)) (hk : PySem.W.keepIn X.K (.ref f) = true) (hb : KBinds X.K fd ps ks g gV) (hx : Passes CX X E)
    (hkw : PK X kws tk) (hall : (backToKw pos (keywordEach kws X.env)).all (·.1.isSome) = true := by rfl) (hks : (backToKw pos (keywordEach kws X.env)).filterMap (·.1) = ks := by rfl)
    (hdb : (x == ("__debug__" : Str)) = false := by decide) (hpl : ((backTo pos (starEach [] X.env)).any (·.1) || (backToKw pos (keywordEach kws X.env)).any (·.1.isNone)) = false := by rfl) :
    PE X (.Call (.Name x p) [] kws pos) (tCallK sp gV E tNil tk) := by
  refine ⟨fun pins s σ H Q I h => ?_⟩
  refine wpAny_Call_Name_kw (ld_glob I hg hm ?_ hdb)
  refine PySem.W.callWith_KW0 (h₀ := X.base) I.ok.mod.kin hk hall ?_ hpl
  refine thn (hkw.run pos pins s σ H _ I h) fun ws s2 ⟨zs, H2, I2, rz, q2⟩ => ⟨I2.kIn, ?_⟩
  rw [hks]
  exact run_fnk (us := []) (vs := []) F hr hb hx I2 .nil rz q2
end
/-- two keywords, the second parameter's first -/
def g21 (α : Type) : List α → List α → List α
  | [], [a, b] => [b, a]
  | _, _ => []
def g1 (α : Type) : List α → List α → List α
  | [], [a] => [a]
  | _, _ => []
theorem kb21 {K : PySem.W.Frag} {x qual : Str} {st : Stmt} {f : Addr} {fd : FuncData} {p1 p2 : Str} (F : Fun K x qual st f fd)
    (h : ∀ (kV doc pm : Value) (an : Option Addr) (cdv ct a b : Value), bindArgs (PySem.W.fnOf x qual (defArgs st) (defBody st) (defScope st) .none kV doc pm an cdv ct) ⟨[], [(p2, a), (p1, b)]⟩ = pure [(p1, b), (p2, a)]) : KBinds K fd [p1, p2] [p2, p1] (g21 Value) (g21 V) := by
  obtain ⟨oc, od, kV, doc, pm, an, cdv, ct, osl, rfl, lk, hcd⟩ := F.ex
  refine ⟨fun s us ws _ hl => ?_, fun {vs us zs ws} r1 r2 => ?_⟩
  · match us, ws, hl with
    | [], [a, b], _ => exact .of_eq (h kV doc pm an cdv ct a b)
    | [], [], hl => exact absurd hl (by simp [g21])
    | [], [_], hl => exact absurd hl (by simp [g21])
    | [], _ :: _ :: _ :: _, hl => exact absurd hl (by simp [g21])
    | _ :: _, _, hl => exact absurd hl (by simp [g21])
  · cases r1 with
    | cons _ _ => exact .nil
    | nil =>
      cases r2 with
      | nil => exact .nil
      | cons a t =>
        cases t with
        | nil => exact .nil
        | cons b t =>
          cases t with
          | nil => exact .cons b (.cons a .nil)
          | cons _ _ => exact .nil
theorem kb1 {K : PySem.W.Frag} {x qual : Str} {st : Stmt} {f : Addr} {fd : FuncData} {p1 : Str} (F : Fun K x qual st f fd)
    (h : ∀ (kV doc pm : Value) (an : Option Addr) (cdv ct a : Value), bindArgs (PySem.W.fnOf x qual (defArgs st) (defBody st) (defScope st) .none kV doc pm an cdv ct) ⟨[], [(p1, a)]⟩ = pure [(p1, a)]) : KBinds K fd [p1] [p1] (g1 Value) (g1 V) := by
  obtain ⟨oc, od, kV, doc, pm, an, cdv, ct, osl, rfl, lk, hcd⟩ := F.ex
  refine ⟨fun s us ws _ hl => ?_, fun {vs us zs ws} r1 r2 => ?_⟩
  · match us, ws, hl with
    | [], [a], _ => exact .of_eq (h kV doc pm an cdv ct a)
    | [], [], hl => exact absurd hl (by simp [g1])
    | [], _ :: _ :: _, hl => exact absurd hl (by simp [g1])
    | _ :: _, _, hl => exact absurd hl (by simp [g1])
  · cases r1 with
    | cons _ _ => exact .nil
    | nil =>
      cases r2 with
      | nil => exact .nil
      | cons a t =>
        cases t with
        | nil => exact .cons a .nil
        | cons _ _ => exact .nil
end Lx
/-! texts repeated -/
namespace Lx
open PySem PySem.Spec L2
/-- the signs of a text, n times -/
def rep (x : Str) (n : Nat) : Str := ⟨((List.replicate n x.cps.toList).flatten).toArray⟩
theorem rep_list (x : Str) (n : Nat) : (rep x n).cps.toList = (List.replicate n x.cps.toList).flatten := rfl
theorem rep_len (x : Str) (n : Nat) : (rep x n).length = x.length * n := by
  show ((List.replicate n x.cps.toList).flatten).toArray.size = x.cps.size * n
  rw [List.size_toArray, List.length_flatten, List.map_replicate, List.sum_replicate_nat, Array.length_toList, Nat.mul_comm]
theorem rep_one (x : Str) : rep x 1 = x := by
  have e : (rep x 1).cps.toList = x.cps.toList := by simp [rep_list]
  exact Str.ext' (Array.toList_inj.mp e)
theorem rep_zero (x : Str) : rep x 0 = Str.empty := rfl
theorem fold_rep (a : Array Nat) : ∀ (n : Nat) (b : Array Nat), ((List.replicate n a).foldl (· ++ ·) b).toList = b.toList ++ (List.replicate n a.toList).flatten
  | 0, b => by simp
  | n + 1, b => by
    rw [List.replicate_succ, List.foldl_cons, fold_rep a n, List.replicate_succ, List.flatten_cons, Array.toList_append, List.append_assoc]
theorem rep_fold (x : Str) (n : Nat) : (⟨(List.replicate n x.cps).foldl (· ++ ·) #[]⟩ : Str) = rep x n := by
  have e : ((List.replicate n x.cps).foldl (· ++ ·) #[]).toList = (rep x n).cps.toList := by
    rw [fold_rep, rep_list]; rfl
  exact Str.ext' (Array.toList_inj.mp e)
theorem rep_empty (x : Str) (n : Nat) (h : x.length = 0) : rep x n = x := by
  have e : x.cps.toList = [] := List.eq_nil_of_length_eq_zero (by rw [Array.length_toList]; exact h)
  have e2 : (rep x n).cps.toList = x.cps.toList := by
    rw [rep_list, e]
    induction n with
    | zero => rfl
    | succ n ih => rw [List.replicate_succ, List.flatten_cons, ih]; rfl
  exact Str.ext' (Array.toList_inj.mp e2)
/-- text * k -/
def rRepS : R2 := fun x y H Q => ∃ (z : Str) (k : Int), x = .str z ∧ y = .int k ∧ 0 ≤ k ∧ k < 1000000000 ∧ z.length * k.toNat ≤ sizeLine ∧ Q (.str (rep z k.toNat)) H
theorem op_repS {X : Cx} : OpR X (binaryOp .Mult) rRepS := by
  intro pins s σ H x y v u Q I rx ry h
  obtain ⟨z, k, rfl, rfl, h0, h1, hz, q⟩ := h
  obtain ⟨t, rfl⟩ := rx
  obtain ⟨t', rfl⟩ := ry
  have hlong : PySem.Builtin.Str.tooLong (z.length * k.toNat) = false := by
    unfold PySem.Builtin.Str.tooLong
    exact decide_eq_false (by omega)
  refine P.mul_str (by rw [decide_eq_false (by omega), decide_eq_false (by omega)]; rfl) (fun hk _ => ?_) (fun _ _ => hlong) ?_
  · have e : (z.length : Int) * k ≤ 2 ^ 63 - 1 := by
      have e1 : (z.length : Int) * k = ((z.length * k.toNat : Nat) : Int) := by
        rw [Int.natCast_mul, Int.toNat_of_nonneg h0]
      have e2 : sizeLine ≤ 9223372036854775807 := by rw [sizeLine_eq]; decide
      rw [e1]
      omega
    have hkp : 0 < k := by omega
    have := Int.le_ediv_of_mul_le hkp e
    omega
  · by_cases hk : k < 1
    · rw [if_pos hk]
      have e : k.toNat = 0 := by omega
      rw [e, rep_zero] at q
      exact ⟨by decide, ⟨.str _, H, I.tok _, ⟨_, rfl⟩, q⟩⟩
    · rw [if_neg hk]
      by_cases h2 : (k == 1 || z.length == 0) = true
      · rw [if_pos h2]
        have e : rep z k.toNat = z := by
          rcases Bool.or_eq_true_iff.mp h2 with e | e
          · have e' : k.toNat = 1 := by have := beq_iff_eq.mp e; omega
            rw [e', rep_one]
          · exact rep_empty _ _ (beq_iff_eq.mp e)
        rw [e] at q
        exact ⟨.str _, H, I, ⟨_, rfl⟩, q⟩
      · rw [if_neg h2, rep_fold]
        exact ⟨by rw [rep_len]; exact hz, ⟨.str _, H, I.tok _, ⟨_, rfl⟩, q⟩⟩
end Lx
namespace Lw
open PySem PySem.Spec L2 Lx
theorem same_upd {H : Hp} {p : Addr} {o : HO} (h : H p = none) : Same H (upd H p o) := fun b x e => by
  rw [upd_ne (ne_of_none e h)]
  exact e
abbrev steps : Str := "UDMN"
def ChOk (x : Str) : Prop := ∀ c ∈ x.cps.toList, c ∈ steps.cps.toList
abbrev nothing : Fm := .keep 0 0
def stepF (c : Nat) : Fm := if c = 85 then .keep 0 1 else if c = 68 then .keep 1 0 else if c = 77 then .lf 0 0 1 0 else .cr 0 0 1
def formL (cs : List Nat) : Fm := cs.foldl (fun f c => f.both (stepF c)) nothing
def formOf (x : Str) : Fm := formL x.cps.toList
def FLe (L : Nat) : Fm → Prop
  | .keep b a => 0 ≤ b ∧ b ≤ L ∧ 0 ≤ a ∧ a ≤ L
  | .lf b a k c => 0 ≤ b ∧ b ≤ L ∧ 0 ≤ a ∧ a ≤ L ∧ 0 < k ∧ Sm (13 * L + 1) k ∧ 0 ≤ c ∧ c ≤ L
  | .cr b a k => 0 ≤ b ∧ b ≤ L ∧ 0 ≤ a ∧ a ≤ L ∧ 0 < k ∧ Sm (13 * L + 1) k
theorem sm_le {L : Nat} {x : Int} (h0 : 0 ≤ x) (h : x ≤ L) : Sm (13 * L + 1) x := by
  have h1 : L < 2 ^ L := Nat.lt_two_pow_self
  have h2 : 2 ^ L ≤ 2 ^ (13 * L + 1) := Nat.pow_le_pow_right (by decide) (by omega)
  unfold Sm
  omega
theorem FLe.ok {L : Nat} : ∀ {f : Fm}, FLe L f → f.Ok (13 * L + 1)
  | .keep _ _, ⟨h1, h2, h3, h4⟩ => ⟨h1, h3, sm_le h1 h2, sm_le h3 h4⟩
  | .lf _ _ _ _, ⟨h1, h2, h3, h4, h5, h6, h7, h8⟩ => ⟨h1, h3, h5, h7, sm_le h1 h2, sm_le h3 h4, h6, sm_le h7 h8⟩
  | .cr _ _ _, ⟨h1, h2, h3, h4, h5, h6⟩ => ⟨h1, h3, h5, sm_le h1 h2, sm_le h3 h4, h6⟩
theorem step_cases {c : Nat} (h : c ∈ steps.cps.toList) : stepF c = .keep 0 1 ∨ stepF c = .keep 1 0 ∨ stepF c = .lf 0 0 1 0 ∨ stepF c = .cr 0 0 1 := by
  unfold stepF
  split
  · exact .inl rfl
  · split
    · exact .inr (.inl rfl)
    · split
      · exact .inr (.inr (.inl rfl))
      · exact .inr (.inr (.inr rfl))
theorem sm_mul {L : Nat} {k x : Int} (hk : Sm (13 * L + 1) k) (h0 : 0 ≤ x) (h : x < 8192) : Sm (13 * (L + 1) + 1) (k * x * 1) := by
  have e : Sm 13 x := by
    unfold Sm
    have : (2 : Nat) ^ 13 = 8192 := by decide
    omega
  rw [Int.mul_one]
  exact (hk.mul e).mono (by omega)
theorem sm_up {L : Nat} {k : Int} (hk : Sm (13 * L + 1) k) : Sm (13 * (L + 1) + 1) k := hk.mono (by omega)
theorem pp (x : Int) : 0 ≤ (if x > 0 then x else 0) ∧ ((if x > 0 then x else 0) = x ∨ ((if x > 0 then x else 0) = 0 ∧ x ≤ 0)) := by
  by_cases h : x > 0
  · rw [if_pos h]; omega
  · rw [if_neg h]; omega
theorem FLe.step {L : Nat} (hL : L ≤ 7000) {c : Nat} (hc : c ∈ steps.cps.toList) {f : Fm} (h : FLe L f) : FLe (L + 1) (f.both (stepF c)) := by
  cases f with
  | keep b a =>
    obtain ⟨h1, h2, h3, h4⟩ := h
    have p1 := pp (0 - a)
    have p2 := pp (a - 0)
    have p3 := pp (1 - a)
    have p4 := pp (a - 1)
    have one : Sm (13 * (L + 1) + 1) 1 := sm_le (L := L + 1) (by decide) (by omega)
    rcases step_cases hc with e | e | e | e <;> rw [e] <;> simp only [Fm.both, Fm.ahead, Fm.b, Fm.a, FLe]
    · exact ⟨by omega, by omega, by omega, by omega⟩
    · exact ⟨by omega, by omega, by omega, by omega⟩
    · exact ⟨by omega, by omega, by omega, by omega, by decide, one, by decide, by omega⟩
    · exact ⟨by omega, by omega, by omega, by omega, by decide, one⟩
  | lf b a k d =>
    obtain ⟨h1, h2, h3, h4, h5, h6, h7, h8⟩ := h
    have p1 := pp (d - 0)
    have p2 := pp (d - 1)
    rcases step_cases hc with e | e | e | e <;> rw [e] <;> simp only [Fm.both, Fm.after, Fm.b, Fm.a, FLe]
    · exact ⟨h1, by omega, h3, by omega, h5, sm_up h6, by omega, by omega⟩
    · exact ⟨h1, by omega, h3, by omega, h5, sm_up h6, by omega, by omega⟩
    · refine ⟨h1, by omega, h3, by omega, ?_, sm_mul h6 (by omega) (by omega), by decide, by omega⟩
      rw [Int.mul_one]
      exact Int.mul_pos h5 (by omega)
    · refine ⟨h1, by omega, h3, by omega, ?_, sm_mul h6 (by omega) (by omega)⟩
      rw [Int.mul_one]
      exact Int.mul_pos h5 (by omega)
  | cr b a k =>
    obtain ⟨h1, h2, h3, h4, h5, h6⟩ := h
    rcases step_cases hc with e | e | e | e <;> rw [e] <;> simp only [Fm.both, FLe, Int.mul_one]
    · exact ⟨h1, by omega, h3, by omega, h5, sm_up h6⟩
    · exact ⟨h1, by omega, h3, by omega, h5, sm_up h6⟩
    · exact ⟨h1, by omega, h3, by omega, h5, sm_up h6, by decide, by omega⟩
    · exact ⟨h1, by omega, h3, by omega, h5, sm_up h6⟩
/-- the forms of the steps, and of no step -/
structure StepT (K : PySem.W.Frag) (w : World) (mg : Str → Option Value) (aN aS : Addr) : Prop where
  gN : mg "NOTHING" = some (.ref aN)
  n : ∀ H : Hp, FmAt K H (.ref aN) nothing
  gS : mg "STEP_FORMS" = some (.ref aS)
  s : ∀ c ∈ steps.cps.toList, ∃ v, KDct K w aS ⟨#[c]⟩ v ∧ ∀ H : Hp, FmAt K H v (stepF c)
theorem Same.own {H H' : Hp} {p : Addr} {o : HO} (s : Same H H') (n : H p = none) : Same H (upd H' p o) := fun b x e => by
  rw [upd_ne (ne_of_none e n)]
  exact s b x e
theorem SqT.lstUpd {K : PySem.W.Frag} {H : Hp} {a p : Addr} {xs ys : List V} {o : HO} (h : SqT K H a xs) (e : H p = some (.lst ys)) : SqT K (upd H p o) a xs := by
  have ne : ∀ o', H a = some o' → (∀ zs, o' ≠ .lst zs) → a ≠ p := fun o' h1 h2 z => by
    subst z
    rw [e] at h1
    exact h2 _ (Option.some.inj h1).symm
  rcases h with (h | ⟨q, h⟩) | h
  · exact .inl (.inl (by rw [upd_ne (ne _ h (fun zs z => by cases z))]; exact h))
  · exact .inl (.inr ⟨q, by rw [upd_ne (ne _ h (fun zs z => by cases z))]; exact h⟩)
  · exact .inr h
theorem Prs.lstUpd {K : PySem.W.Frag} {H : Hp} {p : Addr} {ys : List V} {o : HO} (e : H p = some (.lst ys)) : ∀ {vs : List V} {gs : List (Int × Int)}, Prs K H vs gs → Prs K (upd H p o) vs gs
  | _, _, .nil => .nil
  | _, _, .cons ⟨q, h1, h2⟩ t => .cons ⟨q, h1, by rw [upd_ne (ne_of h2 e (by intro z; cases z))]; exact h2⟩ (Prs.lstUpd e t)
theorem Prs.back {K : PySem.W.Frag} {H : Hp} : ∀ {vs : List V} {gs : List (Int × Int)} {x : Int × Int}, Prs K H vs (gs ++ [x]) → ∃ ws v, vs = ws ++ [v] ∧ Prs K H ws gs ∧ PrAt H v x
  | _, [], x, h => by
    cases h with
    | cons h1 t =>
      cases t
      exact ⟨[], _, rfl, .nil, h1⟩
  | _, g :: gs, x, h => by
    cases h with
    | cons h1 t =>
      obtain ⟨ws, v, rfl, a, b⟩ := Prs.back (gs := gs) t
      exact ⟨_ :: ws, v, rfl, .cons h1 a, b⟩
theorem snoc_or {α : Type} : ∀ l : List α, l = [] ∨ ∃ a x, l = a ++ [x]
  | [] => .inl rfl
  | x :: l => by
    rcases snoc_or l with rfl | ⟨a, y, rfl⟩
    · exact .inr ⟨[], x, rfl⟩
    · exact .inr ⟨x :: a, y, rfl⟩
theorem addTo_nil (x : Int × Int) : addTo [] x = [x] := rfl
theorem addTo_snoc (a : List (Int × Int)) (y x : Int × Int) : addTo (a ++ [y]) x = if y.2 = x.2 then a ++ [(y.1 + x.1, x.2)] else a ++ [y] ++ [x] := by
  unfold addTo
  rw [List.getLast?_concat]
  simp
theorem ixN_last {α : Type} (a : List α) (x : α) : ixN (a ++ [x]).length (-1) = some a.length := by
  unfold ixN
  simp
  omega
/-- numbers of groups that may be reckoned with -/
def RnSm (n : Nat) (r : List (Int × Int) × Int) : Prop := (∀ x ∈ r.1, 0 ≤ x.1 ∧ 0 ≤ x.2 ∧ Sm n x.1 ∧ Sm n x.2) ∧ 0 ≤ r.2 ∧ Sm n r.2 ∧ r.1.length ≤ 1000
theorem RnOk.sm {n : Nat} {r : List (Int × Int) × Int} (h : RnOk n r) : RnSm n r := ⟨fun x hx => by
  obtain ⟨i, hi⟩ := List.mem_iff_getElem?.mp hx
  obtain ⟨h1, h2, h3, h4, _⟩ := h.gs i x hi
  exact ⟨by omega, h2, h3, h4⟩, h.rest.1, h.rest.2, h.len⟩
theorem sum_mapV {gs : List (Int × Int)} {f : Fm} : ((gs.map fun x => x.1 * (f.after x.2 + 1))).sum = total (moved f gs) := by
  unfold total moved
  rw [List.map_map]
  rfl
theorem sum_sm {m : Nat} : ∀ (ts : List Int), (∀ t ∈ ts, 0 ≤ t ∧ Sm m t) → 0 ≤ ts.sum ∧ ts.sum ≤ ts.length * (2 ^ m : Nat)
  | [], _ => ⟨by decide, by simp⟩
  | t :: ts, h => by
    obtain ⟨h0, h1⟩ := h t (List.mem_cons_self ..)
    obtain ⟨i0, i1⟩ := sum_sm ts fun x hx => h x (List.mem_cons_of_mem _ hx)
    rw [List.sum_cons, List.length_cons]
    have e : ((ts.length + 1 : Nat) : Int) * (2 ^ m : Nat) = ts.length * (2 ^ m : Nat) + (2 ^ m : Nat) := by
      rw [Int.natCast_add, Int.add_mul]
      simp
    unfold Sm at h1
    rw [e]
    generalize ((ts.length : Nat) : Int) * (2 ^ m : Nat) = T at *
    generalize 2 ^ m = M at *
    omega
theorem units_ok {n : Nat} {r : List (Int × Int) × Int} {f : Fm} (h : RnSm n r) (hf : f.Ok n) : 0 ≤ units r f ∧ Sm (2 * n + 20) (units r f) := by
  have key : ∀ t ∈ (r.1.map fun x => x.1 * (f.after x.2 + 1)), 0 ≤ t ∧ Sm (2 * n + 4) t := by
    intro t ht
    obtain ⟨x, hx, rfl⟩ := List.mem_map.mp ht
    obtain ⟨x1, x2, x3, x4⟩ := h.1 x hx
    have hb := Fm.after_ok hf x2 x4
    have hb2 : Sm (n + 2) (f.after x.2 + 1) := hb.2.add (Nat.lt_of_lt_of_le (by decide : (1 : Int).natAbs < 2 ^ 1) (Nat.pow_le_pow_right (by decide) (by omega)))
    exact ⟨Int.mul_nonneg x1 (by have := hb.1; omega), (x3.mul hb2).mono (by omega)⟩
  obtain ⟨s0, s1⟩ := sum_sm _ key
  rw [sum_mapV] at s0 s1
  rw [List.length_map] at s1
  have hl := h.2.2.2
  have hr0 := h.2.1
  have hr1 : r.2.natAbs < 2 ^ n := h.2.2.1
  have e1 : (r.1.length : Int) * (2 ^ (2 * n + 4) : Nat) ≤ 1000 * (2 ^ (2 * n + 4) : Nat) := Int.mul_le_mul_of_nonneg_right (by omega) (Int.natCast_nonneg _)
  have e2 : 2 ^ (2 * n + 20) = 2 ^ (2 * n + 4) * 65536 := by rw [show 2 * n + 20 = (2 * n + 4) + 16 from rfl, Nat.pow_add]
  have e3 : 2 ^ n ≤ 2 ^ (2 * n + 4) := Nat.pow_le_pow_right (by decide) (by omega)
  unfold units Sm
  rw [e2]
  generalize total (moved f r.1) = T at *
  generalize (r.1.length : Int) * (2 ^ (2 * n + 4) : Nat) = U at *
  generalize 2 ^ (2 * n + 4) = M at *
  generalize 2 ^ n = N at *
  omega
/-- a run that has just been made -/
def NewRn (K : PySem.W.Frag) (H H' : Hp) (v : V) (r : List (Int × Int) × Int) : Prop :=
  ∃ p l xs, v = .ref p ∧ H p = none ∧ H l = none ∧ H' p = some (.tup [.ref l, .int r.2]) ∧ H' l = some (.lst xs) ∧ Prs K H' xs r.1
theorem RnSm.mono {n m : Nat} {r : List (Int × Int) × Int} (h : RnSm n r) (k : n ≤ m) : RnSm m r :=
  ⟨fun x hx => ⟨(h.1 x hx).1, (h.1 x hx).2.1, (h.1 x hx).2.2.1.mono k, (h.1 x hx).2.2.2.mono k⟩, h.2.1, h.2.2.1.mono k, h.2.2.2⟩
theorem NewRn.back {K : PySem.W.Frag} {H0 H H' : Hp} {v : V} {r : List (Int × Int) × Int} (s : Same H0 H) (h : NewRn K H H' v r) : NewRn K H0 H' v r := by
  obtain ⟨p, l, xs, h1, h2, h3, h4⟩ := h
  exact ⟨p, l, xs, h1, s.free h2, s.free h3, h4⟩
def CPowW (i j : Int) : Prop := 0 ≤ j ∧ j ≤ 64 ∧ i.natAbs < 2 ^ 200000
theorem op_powW {X : Cx} : OpR X (binaryOp .Pow) (rI CPowW fun i j => .int (i ^ j.toNat)) := opI fun i j _ _ _ _ _ hc q => by
  refine PyProof.Rows.pow_int hc.1 ?_ q
  have h1 := PySem.Flt.log2_lt_of (by decide : 0 < 200000) hc.2.2
  have h2 : Builtin.Int.intBits i ≤ i.natAbs.log2 + 1 := by
    unfold Builtin.Int.intBits
    split <;> omega
  have h3 : (Builtin.Int.intBits i : Int) ≤ 200000 := by omega
  have h4 := hc.2.1
  have h5 := hc.1
  have h6 : (Builtin.Int.intBits i : Int) * j ≤ 200000 * 64 := by
    refine Int.le_trans (Int.mul_le_mul_of_nonneg_right h3 h5) (Int.mul_le_mul_of_nonneg_left h4 (by decide))
  exact Int.le_trans h6 (by decide)
theorem fm {a b : Int} (hb : 0 < b) : 0 ≤ a.fmod b ∧ a.fmod b < b := by
  rw [Int.fmod_eq_emod_of_nonneg a (Int.le_of_lt hb)]
  exact ⟨Int.emod_nonneg a (by omega), Int.emod_lt_of_pos a hb⟩
theorem pow_sm {x : Int} (h0 : 0 ≤ x) (h : x < 2 ^ 200) {j : Int} (j0 : 0 ≤ j) (j1 : j ≤ 64) : CPowW x j := ⟨j0, j1, by
  have h1 : (x.natAbs : Int) < ((2 ^ 200 : Nat) : Int) := by
    rw [Int.natAbs_of_nonneg h0]
    exact h
  exact Nat.lt_of_lt_of_le (Int.ofNat_lt.mp h1) (Nat.pow_le_pow_right (by decide) (by decide))⟩
theorem cube_sm {x : Int} (h0 : 0 ≤ x) (h : x < 2147483648) : Sm 93 (x ^ Int.toNat 3) := by
  have e : x ^ Int.toNat 3 = x * x * x := by
    show x ^ 3 = _
    rw [Int.pow_succ, Int.pow_succ, Int.pow_succ, Int.pow_zero, Int.one_mul]
  have hx : Sm 31 x := by
    unfold Sm
    have : (2 : Nat) ^ 31 = 2147483648 := by decide
    omega
  rw [e]
  exact (hx.mul hx).mul hx
theorem p61 : (2 : Int) ^ Int.toNat 61 - 1 = 2305843009213693951 := by decide +kernel
theorem p61n : (2 : Int) ^ Int.toNat 61 - 1 ≠ 0 := by decide +kernel
theorem p61p : (0 : Int) < (2 : Int) ^ Int.toNat 61 - 1 := by decide +kernel
theorem p18n : (10 : Int) ^ Int.toNat 18 + 9 ≠ 0 := by decide +kernel
theorem while_fin {c : TT} {tb : TS} {D : Ends} {σ : St} {H : Hp} (Fin : St → Hp → Prop) (h : ∀ R : St → Hp → Prop, (∀ σ H, Fin σ H → R σ H) → tWhile c tb { D with nx := R } σ H) (hf : ∀ σ H, Fin σ H → D.nx σ H) : tWhile c tb D σ H := h D.nx hf
theorem dps {K : PySem.W.Frag} {H : Hp} : ∀ ds : List Int, DpAll K H (ds.map V.int) (ds.map PyData.int)
  | [] => .nil
  | d :: ds => .cons (.int d) (dps ds)
theorem shaped_ints (ds : List Int) : SeqAt.shaped (.list (ds.map .int)) = true := by
  have h1 : ∀ ds : List Int, PyData.canLayAll0 (ds.map .int) = true := fun ds => by
    induction ds with
    | nil => rfl
    | cons d ds ih => simp only [List.map_cons, PyData.canLayAll0, PyData.canLay0, ih, Bool.and_self]
  have h2 : ∀ ds : List Int, PyData.depthAll (ds.map .int) = 0 := fun ds => by
    induction ds with
    | nil => rfl
    | cons d ds ih => simp [PyData.depthAll, PyData.depth, ih]
  unfold SeqAt.shaped
  simp [PyData.canLay0, PyData.depth, h1, h2]
theorem p18 : (10 : Int) ^ Int.toNat 18 = 1000000000000000000 := by decide +kernel
def TT (K : PySem.W.Frag) (H : Hp) (a : Addr) : Prop := (∃ ys, H a = some (.tup ys)) ∨ (∃ o, K.lookup a = some o ∧ o.cls = .type "tuple") ∨ ∃ o ys, H a = some (.frz o (.tup ys))
mutual
inductive Dq (K : PySem.W.Frag) (H : Hp) : V → PyData → Prop
  | non : Dq K H .non .none
  | bl (b : Bool) : Dq K H (.bl b) (.bool b)
  | int (i : Int) : Dq K H (.int i) (.int i)
  | str (x : Str) : Dq K H (.str x) (.str x)
  | lst {a : Addr} {xs : List V} {ds : List PyData} : H a = some (.lst xs) → DqAll K H xs ds → Dq K H (.ref a) (.list ds)
  | tup {a : Addr} {xs : List V} {ds : List PyData} : TT K H a → SqT K H a xs → DqAll K H xs ds → Dq K H (.ref a) (.tuple ds)
inductive DqAll (K : PySem.W.Frag) (H : Hp) : List V → List PyData → Prop
  | nil : DqAll K H [] []
  | cons {v : V} {vs : List V} {d : PyData} {ds : List PyData} : Dq K H v d → DqAll K H vs ds → DqAll K H (v :: vs) (d :: ds)
end
theorem TT.ty {K : PySem.W.Frag} {H : Hp} {a : Addr} : TT K H a → TyX K H (.ref a) (.type "tuple")
  | .inl ⟨_, h⟩ => .base (.tup h)
  | .inr (.inl ⟨_, h, c⟩) => .kTuple h c
  | .inr (.inr ⟨_, _, h⟩) => .fTuple h
theorem SqT.tt {K : PySem.W.Frag} {H : Hp} {a : Addr} {xs : List V} : SqT K H a xs → TT K H a
  | .inl (.inl h) => .inl ⟨_, h⟩
  | .inl (.inr ⟨_, h⟩) => .inr (.inr ⟨_, _, h⟩)
  | .inr ⟨_, _, _, h, c, _⟩ => .inr (.inl ⟨_, h, c⟩)
theorem TT.same {K : PySem.W.Frag} {H H' : Hp} {a : Addr} (s : Same H H') : TT K H a → TT K H' a
  | .inl ⟨ys, h⟩ => .inl ⟨ys, s _ _ h⟩
  | .inr (.inl h) => .inr (.inl h)
  | .inr (.inr ⟨o, ys, h⟩) => .inr (.inr ⟨o, ys, s _ _ h⟩)
mutual
theorem Dq.same {K : PySem.W.Frag} {H H' : Hp} (s : Same H H') : ∀ {v : V} {d : PyData}, Dq K H v d → Dq K H' v d
  | _, _, .non => .non
  | _, _, .bl b => .bl b
  | _, _, .int i => .int i
  | _, _, .str x => .str x
  | _, _, .lst h t => .lst (s _ _ h) (DqAll.same s t)
  | _, _, .tup h1 h2 t => .tup (h1.same s) (sameT s h2) (DqAll.same s t)
theorem DqAll.same {K : PySem.W.Frag} {H H' : Hp} (s : Same H H') : ∀ {vs : List V} {ds : List PyData}, DqAll K H vs ds → DqAll K H' vs ds
  | _, _, .nil => .nil
  | _, _, .cons h t => .cons (Dq.same s h) (DqAll.same s t)
end
mutual
theorem Dq.dp {K : PySem.W.Frag} {H : Hp} : ∀ {v : V} {d : PyData}, Dq K H v d → Dp K H v d
  | _, _, .non => .non
  | _, _, .bl b => .bl b
  | _, _, .int i => .int i
  | _, _, .str x => .str x
  | _, _, .lst h t => .lst (.inl (.inl h)) (DqAll.dp t)
  | _, _, .tup _ h2 t => .tup h2 (DqAll.dp t)
theorem DqAll.dp {K : PySem.W.Frag} {H : Hp} : ∀ {vs : List V} {ds : List PyData}, DqAll K H vs ds → DpAll K H vs ds
  | _, _, .nil => .nil
  | _, _, .cons h t => .cons (Dq.dp h) (DqAll.dp t)
end
theorem DqAll.len {K : PySem.W.Frag} {H : Hp} : ∀ {vs : List V} {ds : List PyData}, DqAll K H vs ds → vs.length = ds.length
  | _, _, .nil => rfl
  | _, _, .cons _ t => by rw [List.length_cons, List.length_cons, DqAll.len t]
theorem DqAll.get {K : PySem.W.Frag} {H : Hp} : ∀ {vs : List V} {ds : List PyData}, DqAll K H vs ds → ∀ {i : Nat} {d : PyData}, ds[i]? = some d → ∃ v, vs[i]? = some v ∧ Dq K H v d
  | _, _, .nil, i, d, h => by simp at h
  | _, _, .cons h1 t, 0, d, h => by
    have e := Option.some.inj h
    subst e
    exact ⟨_, rfl, h1⟩
  | _, _, .cons h1 t, i + 1, d, h => DqAll.get t (i := i) h
mutual
def wd : PyData → Bool
  | .list xs | .tuple xs => decide (xs.length ≤ 5000) && wdAll xs
  | _ => true
def wdAll : List PyData → Bool
  | [] => true
  | x :: xs => wd x && wdAll xs
end
theorem wd_get : ∀ (xs : List PyData) (i : Nat) (x : PyData), wdAll xs = true → xs[i]? = some x → wd x = true
  | [], i, x, _, h => by simp at h
  | y :: ys, 0, x, h, e => by
    cases Option.some.inj e
    simp only [wdAll, Bool.and_eq_true] at h
    exact h.1
  | y :: ys, i + 1, x, h, e => by
    simp only [wdAll, Bool.and_eq_true] at h
    exact wd_get ys i x h.2 e
theorem depth_mem : ∀ (xs : List PyData) (i : Nat) (x : PyData), xs[i]? = some x → PyData.depth x ≤ PyData.depthAll xs := fun xs i x h => PyData.depth_le_depthAll xs x (List.mem_of_getElem? h)
def rIxA (K : PySem.W.Frag) : R2 := fun x y H Q => rIxL K x y H Q ∨ rIxT K x y H Q
theorem ix_any {X : Cx} {K : PySem.W.Frag} (h : X.K = K) : IxR X (rIxA K) := by
  subst h
  exact ix_list.or ix_tup
theorem ixA {K : PySem.W.Frag} {H H' : Hp} {a : Addr} {xs : List V} {j : Int} {i : Nat} {v : V} {Q : VK} (sm : Same H H') (h : SqL K H a xs ∨ SqT K H a xs) (e : j = i) (hv : xs[i]? = some v) (q : Q v H') : rIxA K (.ref a) (.int j) H' Q := by
  subst e
  rcases h with h | h
  · exact .inl ⟨a, xs, _, v, rfl, rfl, sm.seq h, atI_nat hv, q⟩
  · exact .inr ⟨a, xs, _, v, rfl, rfl, sameT sm h, atI_nat hv, q⟩
theorem ix_l {X : Cx} {K : PySem.W.Frag} (h : X.K = K) : IxR X (rIxL K) := by
  subst h
  exact ix_list
theorem far_sm {far : Int} (h0 : 4 ≤ far) (h : far < 2 ^ 97) : far.natAbs < 2 ^ 4000 := by
  have e : far.natAbs < 2 ^ 97 := by omega
  exact Nat.lt_of_lt_of_le e (Nat.pow_le_pow_right (by decide) (by decide))
def pd (gs : List (Int × Int)) : List PyData := gs.map fun x => .tuple [.int x.1, .int x.2]
theorem Prs.dp {K : PySem.W.Frag} {H : Hp} : ∀ {vs : List V} {gs : List (Int × Int)}, Prs K H vs gs → DpAll K H vs (pd gs)
  | _, _, .nil => .nil
  | _, _, .cons ⟨p, e, h⟩ t => by
    subst e
    exact .cons (.tup (.inl (.inl h)) (.cons (.int _) (.cons (.int _) .nil))) (Prs.dp t)
theorem pd_lay (gs : List (Int × Int)) : PyData.canLayAll0 (pd gs) = true := by
  unfold pd
  induction gs with
  | nil => rfl
  | cons g gs ih => simp only [List.map_cons, PyData.canLayAll0, PyData.canLay0, ih, Bool.and_self]
theorem pd_depth (gs : List (Int × Int)) : PyData.depthAll (pd gs) ≤ 1 := by
  unfold pd
  induction gs with
  | nil => simp [PyData.depthAll]
  | cons g gs ih =>
    simp only [List.map_cons, PyData.depthAll, PyData.depth]
    omega
theorem pd_shaped (gs : List (Int × Int)) : SeqAt.shaped (.list (pd gs)) = true := by
  have := pd_depth gs
  unfold SeqAt.shaped
  simp only [PyData.canLay0, pd_lay, PyData.depth, Bool.true_and]
  exact decide_eq_true (by omega)
theorem gsok_snoc {n : Nat} {gs : List (Int × Int)} {x : Int × Int} (h : GsOk n gs) (hl : ∀ a y, gs = a ++ [y] → y.2 ≠ x.2) (hx : 1 ≤ x.1 ∧ 0 ≤ x.2 ∧ Sm n x.1 ∧ Sm n x.2) : GsOk n (gs ++ [x]) := by
  intro i z hz
  by_cases hi : i < gs.length
  · rw [List.getElem?_append_left hi] at hz
    obtain ⟨h1, h2, h3, h4, h5⟩ := h i z hz
    refine ⟨h1, h2, h3, h4, fun y hy => ?_⟩
    by_cases hj : i + 1 < gs.length
    · rw [List.getElem?_append_left hj] at hy
      exact h5 y hy
    · have e : i + 1 = gs.length := by omega
      rw [e, List.getElem?_append_right (Nat.le_refl _), Nat.sub_self] at hy
      cases Option.some.inj hy
      rcases snoc_or gs with rfl | ⟨a, y', rfl⟩
      · simp at hi
      · have ea : i = a.length := by
          simp at e
          omega
        subst ea
        simp at hz
        subst hz
        exact Ne.symm (hl a y' rfl)
  · have hle : gs.length ≤ i := by omega
    rw [List.getElem?_append_right hle] at hz
    have e : i - gs.length = 0 := by
      have := (List.getElem?_eq_some_iff.mp hz).1
      simp at this
      omega
    rw [e] at hz
    cases Option.some.inj hz
    refine ⟨hx.1, hx.2.1, hx.2.2.1, hx.2.2.2, fun y hy => ?_⟩
    have := (List.getElem?_eq_some_iff.mp hy).1
    simp at this
    omega
def sameEnd (gs : List (Int × Int)) (j : Int) : Bool := match gs.getLast? with
  | some y => decide (y.2 = j)
  | none => false
theorem sameEnd_snoc (a : List (Int × Int)) (y : Int × Int) (j : Int) : sameEnd (a ++ [y]) j = decide (y.2 = j) := by
  unfold sameEnd
  rw [List.getLast?_concat]
theorem if_by {c : L2.TT} {A B : TS} {D : Ends} {σ : St} {H : Hp} (b : Bool) (R : Hp → Prop) (hc : ∀ K : Bool → Hp → Prop, (∀ H1, R H1 → K b H1) → c σ H K) (h : ∀ H1, R H1 → if b = true then A D σ H1 else B D σ H1) : tIfS c A B D σ H := hc _ h
theorem ix_t {X : Cx} {K : PySem.W.Frag} (h : X.K = K) : IxR X (rIxT K) := by
  subst h
  exact ix_tup
theorem gsok_front {n : Nat} {a : List (Int × Int)} {y : Int × Int} (h : GsOk n (a ++ [y])) : GsOk n a ∧ (∀ a' z, a = a' ++ [z] → z.2 ≠ y.2) ∧ 1 ≤ y.1 ∧ 0 ≤ y.2 := by
  refine ⟨fun i x hx => ?_, fun a' z e => ?_, ?_⟩
  · have hi := (List.getElem?_eq_some_iff.mp hx).1
    obtain ⟨h1, h2, h3, h4, h5⟩ := h i x (by rw [List.getElem?_append_left hi]; exact hx)
    refine ⟨h1, h2, h3, h4, fun w hw => ?_⟩
    have hi2 := (List.getElem?_eq_some_iff.mp hw).1
    exact h5 w (by rw [List.getElem?_append_left hi2]; exact hw)
  · subst e
    have := (h a'.length z (by simp)).2.2.2.2 y (by simp)
    exact fun q => this q.symm
  · have := h a.length y (by simp)
    exact ⟨this.1, this.2.1⟩
def MI (n t : Nat) (acc : List (Int × Int)) : Prop := GsOk (n + 11) acc ∧ (∀ x ∈ acc, x.1 ≤ (t : Int) * (2 ^ n : Nat)) ∧ acc.length ≤ t
theorem mi_sm {n t : Nat} {x : Int} (ht : t ≤ 1000) (h0 : 0 ≤ x) (h : x ≤ (t : Int) * (2 ^ n : Nat)) : Sm (n + 11) x := by
  have e : 2 ^ (n + 11) = 2 ^ n * 2048 := Nat.pow_add 2 n 11
  have e2 : (t : Int) * (2 ^ n : Nat) ≤ 1000 * (2 ^ n : Nat) := Int.mul_le_mul_of_nonneg_right (by omega) (Int.natCast_nonneg _)
  have e3 : 0 < 2 ^ n := Nat.two_pow_pos n
  unfold Sm
  rw [e]
  generalize (t : Int) * (2 ^ n : Nat) = T at *
  generalize 2 ^ n = M at *
  omega
theorem mi_step {n t : Nat} (ht : t < 1000) {acc : List (Int × Int)} {x : Int × Int} (h : MI n t acc) (x1 : 1 ≤ x.1) (x2 : Sm n x.1) (x3 : 0 ≤ x.2) (x4 : Sm (n + 1) x.2) : MI n (t + 1) (addTo acc x) := by
  obtain ⟨h1, h2, h3⟩ := h
  have hM : ((t + 1 : Nat) : Int) * (2 ^ n : Nat) = (t : Int) * (2 ^ n : Nat) + (2 ^ n : Nat) := by
    rw [Int.natCast_add, Int.add_mul]
    simp
  have hx : x.1 < (2 ^ n : Nat) := by
    unfold Sm at x2
    omega
  have ht0 : 0 ≤ (t : Int) * (2 ^ n : Nat) := Int.mul_nonneg (by omega) (Int.natCast_nonneg _)
  have up : ∀ y ∈ acc, y.1 ≤ ((t + 1 : Nat) : Int) * (2 ^ n : Nat) := fun y hy => by
    have := h2 y hy
    omega
  have xs : Sm (n + 11) x.1 := x2.mono (by omega)
  rcases snoc_or acc with rfl | ⟨a, y, rfl⟩
  · refine ⟨gsok_snoc (gs := []) (fun i z hz => by simp at hz) (fun a y e => by simp at e) ⟨x1, x3, xs, x4.mono (by omega)⟩, fun y hy => ?_, by show 1 ≤ t + 1; omega⟩
    have hy' : y = x := List.mem_singleton.mp hy
    rw [hy', hM]
    omega
  · rw [addTo_snoc]
    by_cases ey : y.2 = x.2
    · rw [if_pos ey]
      obtain ⟨g1, g2, g3, g4⟩ := gsok_front h1
      have hy1 := h2 y (by simp)
      have hs : y.1 + x.1 ≤ ((t + 1 : Nat) : Int) * (2 ^ n : Nat) := by omega
      refine ⟨gsok_snoc g1 (fun a' z e => by show z.2 ≠ x.2; rw [← ey]; exact g2 a' z e) ⟨by show 1 ≤ y.1 + x.1; omega, x3, mi_sm (t := t + 1) (by omega) (by show 0 ≤ y.1 + x.1; omega) hs, x4.mono (by omega)⟩, fun z hz => ?_, by simp only [List.length_append, List.length_cons, List.length_nil] at h3 ⊢; omega⟩
      rcases List.mem_append.mp hz with q | q
      · exact up z (List.mem_append.mpr (.inl q))
      · rw [List.mem_singleton.mp q]
        exact hs
    · rw [if_neg ey]
      refine ⟨gsok_snoc h1 (fun a' z e => by
        have := (List.append_inj' e rfl).2
        cases this
        exact ey) ⟨x1, x3, xs, x4.mono (by omega)⟩, fun z hz => ?_, by simp only [List.length_append, List.length_cons, List.length_nil] at h3 ⊢; omega⟩
      rcases List.mem_append.mp hz with q | q
      · exact up z q
      · rw [List.mem_singleton.mp q, hM]
        omega
theorem mi_fold {n : Nat} : ∀ (gs acc : List (Int × Int)) (t : Nat), t + gs.length ≤ 1000 → (∀ x ∈ gs, 1 ≤ x.1 ∧ Sm n x.1 ∧ 0 ≤ x.2 ∧ Sm (n + 1) x.2) → MI n t acc → MI n (t + gs.length) (gs.foldl addTo acc)
  | [], acc, t, _, _, h => h
  | g :: gs, acc, t, hl, hg, h => by
    have hl' : t + (gs.length + 1) ≤ 1000 := hl
    obtain ⟨g1, g2, g3, g4⟩ := hg g (List.mem_cons_self ..)
    have e := mi_fold gs (addTo acc g) (t + 1) (by omega) (fun x hx => hg x (List.mem_cons_of_mem _ hx)) (mi_step (by omega) h g1 g2 g3 g4)
    have e2 : t + 1 + gs.length = t + (g :: gs).length := by simp; omega
    rw [e2] at e
    exact e
theorem runAfter_ok {n : Nat} {r : List (Int × Int) × Int} {f : Fm} (h : RnOk n r) (hf : f.Ok n) : RnOk (3 * n + 40) (runAfter r f) := by
  have hu := units_ok (RnOk.sm h) hf
  cases f with
  | keep b a =>
    have m := mi_fold (n := n) (moved (.keep b a) r.1) [] 0 (by unfold moved; rw [List.length_map]; have := h.len; omega) (fun x hx => by
      obtain ⟨y, hy, rfl⟩ := List.mem_map.mp hx
      obtain ⟨i, hi⟩ := List.mem_iff_getElem?.mp hy
      obtain ⟨y1, y2, y3, y4, _⟩ := h.gs i y hi
      have := Fm.after_ok hf y2 y4
      exact ⟨y1, y3, this.1, this.2⟩) ⟨(fun i x hx => by simp at hx), (fun x hx => by cases hx), Nat.le_refl _⟩
    obtain ⟨m1, m2, m3⟩ := m
    refine ⟨fun i x hx => ?_, ⟨h.rest.1, h.rest.2.mono (by omega)⟩, ?_⟩
    · obtain ⟨q1, q2, q3, q4, q5⟩ := m1 i x hx
      exact ⟨q1, q2, q3.mono (by omega), q4.mono (by omega), q5⟩
    · have e : (moved (.keep b a) r.1).length = r.1.length := List.length_map ..
      have := h.len
      show (Lx.merged (moved (.keep b a) r.1)).length ≤ 1000
      unfold Lx.merged
      omega
  | lf b a k c =>
    by_cases z : k * units r (.lf b a k c) = 0
    · rw [show runAfter r (.lf b a k c) = ([], 0) from if_pos z]
      exact ⟨fun i x hx => by simp at hx, ⟨by decide, Nat.two_pow_pos _⟩, Nat.zero_le _⟩
    · rw [show runAfter r (.lf b a k c) = ([(k * units r (.lf b a k c), c)], 0) from if_neg z]
      have hp := Int.mul_nonneg (Int.le_of_lt hf.2.2.1) hu.1
      have hs := hf.2.2.2.2.2.2.1.mul hu.2
      exact ⟨gsok_snoc (gs := []) (fun i x hx => by simp at hx) (fun a y e => by simp at e) ⟨by show 1 ≤ k * units r (.lf b a k c); omega, hf.2.2.2.1, hs.mono (by omega), hf.2.2.2.2.2.2.2.mono (by omega)⟩, ⟨(by decide : (0 : Int) ≤ 0), Nat.two_pow_pos _⟩, by show 1 ≤ 1000; decide⟩
  | cr b a k =>
    have hs := hf.2.2.2.2.2.mul hu.2
    exact ⟨fun i x hx => by simp [runAfter] at hx, ⟨Int.mul_nonneg (Int.le_of_lt hf.2.2.1) hu.1, hs.mono (by omega)⟩, Nat.zero_le _⟩
theorem units_nothing {n : Nat} {r : List (Int × Int) × Int} (h : RnSm n r) : (r.1.map fun x => x.1 * (x.2 + 1)).sum + r.2 = units r nothing := by
  have e : moved nothing r.1 = r.1 := by
    unfold moved
    have : ∀ gs : List (Int × Int), (∀ x ∈ gs, 0 ≤ x.2) → gs.map (fun x => (x.1, nothing.after x.2)) = gs := by
      intro gs
      induction gs with
      | nil => intro _; rfl
      | cons g gs ih =>
        intro hg
        have h0 := hg g (List.mem_cons_self ..)
        have e0 : nothing.after g.2 = g.2 := by
          show (if g.2 - 0 > 0 then g.2 - 0 else 0) + 0 = g.2
          have := pp (g.2 - 0)
          omega
        rw [List.map_cons, ih fun x hx => hg x (List.mem_cons_of_mem _ hx), e0]
    exact this r.1 fun x hx => (h.1 x hx).2.1
  unfold units
  rw [e]
  rfl
def RnS (K : PySem.W.Frag) (H : Hp) (v : V) (l : Addr) (g : List (Int × Int) × Int) : Prop := ∃ p xs, v = .ref p ∧ H p = some (.tup [.ref l, .int g.2]) ∧ H l = some (.lst xs) ∧ Prs K H xs g.1
theorem NewRn.s {K : PySem.W.Frag} {H H' : Hp} {v : V} {g : List (Int × Int) × Int} : NewRn K H H' v g → ∃ l, H l = none ∧ RnS K H' v l g := fun ⟨p, l, xs, h1, h2, h3, h4, h5, h6⟩ => ⟨l, h3, p, xs, h1, h4, h5, h6⟩
theorem RnS.same {K : PySem.W.Frag} {H H' : Hp} {v : V} {l : Addr} {g : List (Int × Int) × Int} (s : Same H H') : RnS K H v l g → RnS K H' v l g := fun ⟨p, xs, h1, h2, h3, h4⟩ => ⟨p, xs, h1, s _ _ h2, s _ _ h3, h4.same s⟩
theorem RnS.rn {K : PySem.W.Frag} {H : Hp} {v : V} {l : Addr} {g : List (Int × Int) × Int} : RnS K H v l g → RnAt K H v l g := fun ⟨p, xs, h1, h2, h3, h4⟩ => ⟨p, h1, .inl (.inl h2), xs, .inl (.inl h3), h4⟩
theorem RnS.upd {K : PySem.W.Frag} {H : Hp} {v : V} {l l2 : Addr} {g : List (Int × Int) × Int} {ys : List V} {o : HO} (e : H l2 = some (.lst ys)) (ne : l ≠ l2) : RnS K H v l g → RnS K (upd H l2 o) v l g :=
  fun ⟨p, xs, h1, h2, h3, h4⟩ => ⟨p, xs, h1, by rw [upd_ne (ne_of h2 e (by intro z; cases z))]; exact h2, by rw [upd_ne ne]; exact h3, Prs.lstUpd e h4⟩
theorem RnS.ne {K : PySem.W.Frag} {H : Hp} {v : V} {l p : Addr} {g : List (Int × Int) × Int} (h : RnS K H v l g) (n : H p = none) : l ≠ p := by
  obtain ⟨_, _, _, _, h3, _⟩ := h
  exact ne_of_none h3 n
def rd (g : List (Int × Int) × Int) : PyData := .tuple [.list (pd g.1), .int g.2]
theorem Prs.dq {K : PySem.W.Frag} {H : Hp} : ∀ {vs : List V} {gs : List (Int × Int)}, Prs K H vs gs → DqAll K H vs (pd gs)
  | _, _, .nil => .nil
  | _, _, .cons ⟨p, e, h⟩ t => by
    subst e
    exact .cons (.tup (.inl ⟨_, h⟩) (.inl (.inl h)) (.cons (.int _) (.cons (.int _) .nil))) (Prs.dq t)
theorem RnS.dq {K : PySem.W.Frag} {H : Hp} {v : V} {l : Addr} {g : List (Int × Int) × Int} : RnS K H v l g → Dq K H v (rd g) := fun ⟨p, xs, h1, h2, h3, h4⟩ => by
  subst h1
  exact .tup (.inl ⟨_, h2⟩) (.inl (.inl h2)) (.cons (.lst h3 (Prs.dq h4)) (.cons (.int _) .nil))
def fdt : Fm → PyData
  | .keep b a => .tuple [.str "keep", .int b, .int a]
  | .lf b a k c => .tuple [.str "lf", .int b, .int a, .int k, .int c]
  | .cr b a k => .tuple [.str "cr", .int b, .int a, .int k]
theorem fm_dq {K : PySem.W.Frag} {H : Hp} {p : Addr} {f : Fm} (h : H p = some (.tup f.vs)) : Dq K H (.ref p) (fdt f) := by
  cases f with
  | keep b a => exact .tup (.inl ⟨_, h⟩) (.inl (.inl h)) (.cons (.str _) (.cons (.int _) (.cons (.int _) .nil)))
  | lf b a k c => exact .tup (.inl ⟨_, h⟩) (.inl (.inl h)) (.cons (.str _) (.cons (.int _) (.cons (.int _) (.cons (.int _) (.cons (.int _) .nil)))))
  | cr b a k => exact .tup (.inl ⟨_, h⟩) (.inl (.inl h)) (.cons (.str _) (.cons (.int _) (.cons (.int _) (.cons (.int _) .nil))))
theorem rd_shaped (g : List (Int × Int) × Int) : SeqAt.shaped (rd g) = true := by
  have := pd_depth g.1
  unfold SeqAt.shaped rd
  simp only [PyData.canLay0, PyData.canLayAll0, pd_lay, PyData.depth, PyData.depthAll, Bool.true_and, Bool.and_true]
  exact decide_eq_true (by omega)
theorem pd_wd (gs : List (Int × Int)) : wdAll (pd gs) = true := by
  unfold pd
  induction gs with
  | nil => rfl
  | cons g gs ih => simp only [List.map_cons, wdAll, wd, ih, Bool.and_true, List.length_cons, List.length_nil, Bool.and_self, decide_true]; exact decide_eq_true (by omega)
theorem rd_wd {g : List (Int × Int) × Int} (h : g.1.length ≤ 1000) : wd (rd g) = true := by
  have e : (pd g.1).length = g.1.length := List.length_map ..
  unfold rd
  simp only [wd, wdAll, pd_wd, List.length_cons, List.length_nil, Bool.and_true]
  rw [decide_eq_true (by omega : (pd g.1).length ≤ 5000)]
  simp
theorem rd_depth (g : List (Int × Int) × Int) : (rd g).depth ≤ 3 := by
  have := pd_depth g.1
  unfold rd
  simp only [PyData.depth, PyData.depthAll]
  omega
def shw (g : List (Int × Int) × Int) (f : Fm) : PyData := .list [rd g, fdt f]
theorem sm400 {x : Int} (h : Sm 100 x) : x.natAbs < 2 ^ 400 := Nat.lt_of_lt_of_le h (Nat.pow_le_pow_right (by decide) (by decide))
theorem pd_small : ∀ (gs : List (Int × Int)), (∀ x ∈ gs, Sm 100 x.1 ∧ Sm 100 x.2) → small.smallAll (pd gs) = true
  | [], _ => rfl
  | g :: gs, h => by
    have h1 := h g (List.mem_cons_self ..)
    have ih := pd_small gs fun x hx => h x (List.mem_cons_of_mem _ hx)
    unfold pd at ih ⊢
    simp only [List.map_cons, small.smallAll, small, ih, Bool.and_true]
    rw [decide_eq_true (sm400 h1.1), decide_eq_true (sm400 h1.2)]
    rfl
theorem pd_bulk (gs : List (Int × Int)) : PyData.bulkAll (pd gs) ≤ 20 * gs.length := by
  unfold pd
  induction gs with
  | nil => exact Nat.le_refl _
  | cons g gs ih =>
    simp only [List.map_cons, PyData.bulkAll, PyData.bulk, List.length_cons]
    omega
theorem fdt_small {f : Fm} (h : f.Ok 100) : small (fdt f) = true := by
  cases f with
  | keep b a =>
    obtain ⟨_, _, h1, h2⟩ := h
    simp only [fdt, small, small.smallAll]
    rw [decide_eq_true (sm400 h1), decide_eq_true (sm400 h2)]
    decide
  | lf b a k c =>
    obtain ⟨_, _, _, _, h1, h2, h3, h4⟩ := h
    simp only [fdt, small, small.smallAll]
    rw [decide_eq_true (sm400 h1), decide_eq_true (sm400 h2), decide_eq_true (sm400 h3), decide_eq_true (sm400 h4)]
    decide
  | cr b a k =>
    obtain ⟨_, _, _, h1, h2, h3⟩ := h
    simp only [fdt, small, small.smallAll]
    rw [decide_eq_true (sm400 h1), decide_eq_true (sm400 h2), decide_eq_true (sm400 h3)]
    decide
theorem shw_fit {g : List (Int × Int) × Int} {f : Fm} (h : RnOk 100 g) (hf : f.Ok 100) : Fit (shw g f) := by
  refine fit_small ?_ ?_ ?_
  · have e1 := pd_small g.1 fun x hx => by
      obtain ⟨i, hi⟩ := List.mem_iff_getElem?.mp hx
      exact ⟨(h.gs i x hi).2.2.1, (h.gs i x hi).2.2.2.1⟩
    unfold shw rd
    simp only [small, small.smallAll, e1, fdt_small hf, Bool.and_true, Bool.true_and]
    exact decide_eq_true (sm400 h.rest.2)
  · have e := rd_depth g
    have e2 : (fdt f).depth ≤ 1 := by cases f <;> simp [fdt, PyData.depth, PyData.depthAll]
    unfold shw
    simp only [PyData.depth, PyData.depthAll]
    omega
  · have e := pd_bulk g.1
    have e2 : (fdt f).bulk ≤ 200 := by cases f <;> (simp [fdt, PyData.bulk, PyData.bulkAll]; decide)
    have e3 := h.len
    unfold shw rd
    simp only [PyData.bulk, PyData.bulkAll]
    omega
/-- a def that is called by its name -/
structure Cl (P : Program) (w : World) (K : PySem.W.Frag) (mg : Str → Option Value) (base : Heap) (k : Nat) (nm : Str) (ps : List Str) (sp : Sp) (f : Addr) (fd : FuncData) : Prop where
  G : FnOk P w K mg base CX0 k f fd ps sp
  kp : PySem.W.keepIn K (.ref f) = true
  b : Binds K fd ps []
  g : mg nm = some (.ref f)
theorem upd_keep {H : Hp} {t l b : Addr} {o1 o2 o : HO} (nt : H t = none) (ne : b ≠ l) (h : H b = some o) : upd (upd H t o1) l o2 b = some o := by
  rw [upd_ne ne, upd_ne (ne_of_none h nt)]
  exact h
end Lw
namespace Lx
open PySem PySem.Spec L2
/-! ### data that repr can write -/
/-- ints below 2 ^ 400, texts of plain signs -/
def smallB (b : Nat) : PyData → Bool
  | .none | .bool _ => true
  | .int i => decide (i.natAbs < 2 ^ b)
  | .str x => x.cps.toList.all fun c => decide (c < 128)
  | .list xs | .tuple xs => smallAll xs
  | .dict _ => false
where smallAll : List PyData → Bool
  | [] => true
  | x :: xs => smallB b x && smallAll xs
theorem intB_log {b : Nat} (h0 : 0 < b) {i : Int} (h : i.natAbs < 2 ^ b) : i.natAbs.log2 < b := PySem.Flt.log2_lt_of h0 h
theorem intB_shown {b : Nat} (h0 : 0 < b) {i : Int} (h : i.natAbs < 2 ^ b) : (PyData.shown (.int i)).length ≤ b + 1 := by
  have e := int_text_length_le (k := b) h0 (intB_log h0 h)
  show (Str.ofString (toString i)).length ≤ b + 1
  rw [ofString_length]
  omega
mutual
theorem smallB_can {b : Nat} (h0 : 0 < b) (h1 : b ≤ 1900) : ∀ d : PyData, smallB b d = true → d.showable = true
  | .none, _ => rfl
  | .bool _, _ => rfl
  | .int i, h => by
    have e := intB_log h0 (of_decide_eq_true (show decide (i.natAbs < 2 ^ b) = true by simpa only [smallB] using h))
    simp only [PyData.showable]
    exact decide_eq_true (by omega)
  | .str _, _ => rfl
  | .list xs, h => by
    simp only [PyData.showable]
    exact smallB_canAll h0 h1 xs (by simpa only [smallB] using h)
  | .tuple xs, h => by
    simp only [PyData.showable]
    exact smallB_canAll h0 h1 xs (by simpa only [smallB] using h)
  | .dict _, h => by simp [smallB] at h
theorem smallB_canAll {b : Nat} (h0 : 0 < b) (h1 : b ≤ 1900) : ∀ xs : List PyData, smallB.smallAll b xs = true → PyData.showableAll xs = true
  | [], _ => rfl
  | x :: xs, h => by
    have h' : smallB b x = true ∧ smallB.smallAll b xs = true := by simpa only [smallB.smallAll, Bool.and_eq_true] using h
    simp only [PyData.showableAll, Bool.and_eq_true]
    exact ⟨smallB_can h0 h1 x h'.1, smallB_canAll h0 h1 xs h'.2⟩
end
mutual
theorem smallB_no {b : Nat} : ∀ d : PyData, smallB b d = true → d.hasDict = false
  | .none, _ => rfl
  | .bool _, _ => rfl
  | .int i, h => rfl
  | .str _, _ => rfl
  | .list xs, h => by
    simp only [PyData.hasDict]
    exact smallB_noAll xs (by simpa only [smallB] using h)
  | .tuple xs, h => by
    simp only [PyData.hasDict]
    exact smallB_noAll xs (by simpa only [smallB] using h)
  | .dict _, h => by simp [smallB] at h
theorem smallB_noAll {b : Nat} : ∀ xs : List PyData, smallB.smallAll b xs = true → PyData.hasDictAll xs = false
  | [], _ => rfl
  | x :: xs, h => by
    have h' : smallB b x = true ∧ smallB.smallAll b xs = true := by simpa only [smallB.smallAll, Bool.and_eq_true] using h
    simp only [PyData.hasDictAll, Bool.or_eq_false_iff]
    exact ⟨smallB_no x h'.1, smallB_noAll xs h'.2⟩
end
mutual
theorem smallB_leaves {b : Nat} (h0 : 0 < b) (h8 : 8 ≤ b) : ∀ d : PyData, smallB b d = true → d.leavesShort (b + 1) = true
  | .none, _ => rfl
  | .bool _, _ => rfl
  | .int i, h => by
    have e := intB_shown h0 (of_decide_eq_true (show decide (i.natAbs < 2 ^ b) = true by simpa only [smallB] using h))
    simp only [PyData.leavesShort]
    exact decide_eq_true e
  | .str x, h => by
    simp only [PyData.leavesShort, List.all_eq_true, decide_eq_true_eq]
    simp only [smallB, List.all_eq_true, decide_eq_true_eq] at h
    intro c hc
    exact Nat.lt_of_lt_of_le (h c hc) (by decide)
  | .list xs, h => by
    simp only [PyData.leavesShort]
    exact smallB_leavesAll h0 h8 xs (by simpa only [smallB] using h)
  | .tuple xs, h => by
    simp only [PyData.leavesShort]
    exact smallB_leavesAll h0 h8 xs (by simpa only [smallB] using h)
  | .dict _, h => by simp [smallB] at h
theorem smallB_leavesAll {b : Nat} (h0 : 0 < b) (h8 : 8 ≤ b) : ∀ xs : List PyData, smallB.smallAll b xs = true → PyData.leavesShortAll (b + 1) xs = true
  | [], _ => rfl
  | x :: xs, h => by
    have h' : smallB b x = true ∧ smallB.smallAll b xs = true := by simpa only [smallB.smallAll, Bool.and_eq_true] using h
    simp only [PyData.leavesShortAll, Bool.and_eq_true]
    exact ⟨smallB_leaves h0 h8 x h'.1, smallB_leavesAll h0 h8 xs h'.2⟩
end
theorem fit_b {b : Nat} {d : PyData} (h8 : 8 ≤ b) (h1 : b ≤ 1900) (h : smallB b d = true) (hd : d.depth ≤ 40) (hb : (b + 3) * d.bulk + (b + 1) ≤ 16777216) : Fit d := by
  refine ⟨smallB_can (by omega) h1 d h, smallB_no d h, hd, ?_⟩
  have e := PyData.shown_le_bulk (b + 1) (by omega) d (smallB_leaves (by omega) h8 d h)
  rw [sizeLine_eq]
  have e2 : (b + 1 + 2) * d.bulk = (b + 3) * d.bulk := rfl
  omega
end Lx
namespace Lw
open PySem PySem.Spec L2 Lx
/-! ### a chain step by step -/
def stepsL (r : List (Int × Int) × Int) (cs : List Nat) : List (Int × Int) × Int := cs.foldl (fun y c => runAfter y (stepF c)) r
theorem stepsL_snoc (r : List (Int × Int) × Int) (cs : List Nat) (c : Nat) : stepsL r (cs ++ [c]) = runAfter (stepsL r cs) (stepF c) := by
  unfold stepsL
  rw [List.foldl_append]
  rfl
theorem stepsL_append (r : List (Int × Int) × Int) (a b : List Nat) : stepsL r (a ++ b) = stepsL (stepsL r a) b := by
  unfold stepsL
  rw [List.foldl_append]
theorem formL_snoc (cs : List Nat) (c : Nat) : formL (cs ++ [c]) = (formL cs).both (stepF c) := by
  unfold formL
  rw [List.foldl_append]
  rfl
theorem merged_ok {n : Nat} (k : Nat) : ∀ gs : List (Int × Int), gs.length = k → GsOk n gs → Lx.merged gs = gs := by
  induction k with
  | zero =>
    intro gs h _
    rw [List.eq_nil_of_length_eq_zero h]
    rfl
  | succ k ih =>
    intro gs h hg
    rcases snoc_or gs with rfl | ⟨a, y, rfl⟩
    · rfl
    · obtain ⟨h1, h2, _⟩ := gsok_front hg
      rw [merged_snoc, ih a (by simpa using h) h1]
      rcases snoc_or a with rfl | ⟨b, z, rfl⟩
      · rfl
      · rw [addTo_snoc, if_neg (h2 b z rfl)]
theorem after_nothing {j : Int} (h : 0 ≤ j) : nothing.after j = j := by
  show (if j - 0 > 0 then j - 0 else 0) + 0 = j
  have := pp (j - 0)
  omega
theorem moved_nothing {gs : List (Int × Int)} (h : ∀ x ∈ gs, 0 ≤ x.2) : moved nothing gs = gs := by
  unfold moved
  induction gs with
  | nil => rfl
  | cons g gs ih =>
    rw [List.map_cons, ih fun x hx => h x (List.mem_cons_of_mem _ hx), after_nothing (h g (List.mem_cons_self ..))]
theorem runAfter_nothing {n : Nat} {r : List (Int × Int) × Int} (h : RnOk n r) : runAfter r nothing = r := by
  show (Lx.merged (moved nothing r.1), r.2) = r
  rw [moved_nothing (fun x hx => ((RnOk.sm h).1 x hx).2.1), merged_ok _ r.1 rfl h.gs]
theorem conv_form {n : Nat} {r : List (Int × Int) × Int} (h : RnOk n r) (k : Nat) : ∀ cs : List Nat, cs.length = k → runAfter r (formL cs) = stepsL r cs := by
  induction k with
  | zero =>
    intro cs e
    rw [List.eq_nil_of_length_eq_zero e]
    exact runAfter_nothing h
  | succ k ih =>
    intro cs e
    rcases snoc_or cs with rfl | ⟨a, c, rfl⟩
    · exact runAfter_nothing h
    · rw [formL_snoc, ← runAfter_both, ih a (by simpa using e), stepsL_snoc]
theorem conv_of {n : Nat} {r : List (Int × Int) × Int} (h : RnOk n r) (x : Str) : runAfter r (formOf x) = stepsL r x.cps.toList := conv_form h _ _ rfl
/-! ### forms of short chains -/
def FLs (L : Nat) : Fm → Prop
  | .keep b a => 0 ≤ b ∧ b ≤ L ∧ 0 ≤ a ∧ a ≤ L
  | .lf b a k c => 0 ≤ b ∧ b ≤ L ∧ 0 ≤ a ∧ a ≤ L ∧ 0 < k ∧ Sm (6 * L + 1) k ∧ 0 ≤ c ∧ c ≤ L
  | .cr b a k => 0 ≤ b ∧ b ≤ L ∧ 0 ≤ a ∧ a ≤ L ∧ 0 < k ∧ Sm (6 * L + 1) k
theorem sms_le {L : Nat} {x : Int} (h0 : 0 ≤ x) (h : x ≤ L) : Sm (6 * L + 1) x := by
  have h1 : L < 2 ^ L := Nat.lt_two_pow_self
  have h2 : 2 ^ L ≤ 2 ^ (6 * L + 1) := Nat.pow_le_pow_right (by decide) (by omega)
  unfold Sm
  omega
theorem FLs.ok {L : Nat} : ∀ {f : Fm}, FLs L f → f.Ok (6 * L + 1)
  | .keep _ _, ⟨h1, h2, h3, h4⟩ => ⟨h1, h3, sms_le h1 h2, sms_le h3 h4⟩
  | .lf _ _ _ _, ⟨h1, h2, h3, h4, h5, h6, h7, h8⟩ => ⟨h1, h3, h5, h7, sms_le h1 h2, sms_le h3 h4, h6, sms_le h7 h8⟩
  | .cr _ _ _, ⟨h1, h2, h3, h4, h5, h6⟩ => ⟨h1, h3, h5, sms_le h1 h2, sms_le h3 h4, h6⟩
theorem sms_mul {L : Nat} {k x : Int} (hk : Sm (6 * L + 1) k) (h0 : 0 ≤ x) (h : x < 64) : Sm (6 * (L + 1) + 1) (k * x * 1) := by
  have e : Sm 6 x := by
    unfold Sm
    have : (2 : Nat) ^ 6 = 64 := by decide
    omega
  rw [Int.mul_one]
  exact (hk.mul e).mono (by omega)
theorem sms_up {L : Nat} {k : Int} (hk : Sm (6 * L + 1) k) : Sm (6 * (L + 1) + 1) k := hk.mono (by omega)
theorem FLs.step {L : Nat} (hL : L ≤ 60) {c : Nat} (hc : c ∈ steps.cps.toList) {f : Fm} (h : FLs L f) : FLs (L + 1) (f.both (stepF c)) := by
  cases f with
  | keep b a =>
    obtain ⟨h1, h2, h3, h4⟩ := h
    have p1 := pp (0 - a)
    have p2 := pp (a - 0)
    have p3 := pp (1 - a)
    have p4 := pp (a - 1)
    have one : Sm (6 * (L + 1) + 1) 1 := sms_le (L := L + 1) (by decide) (by omega)
    rcases step_cases hc with e | e | e | e <;> rw [e] <;> simp only [Fm.both, Fm.ahead, Fm.b, Fm.a, FLs]
    · exact ⟨by omega, by omega, by omega, by omega⟩
    · exact ⟨by omega, by omega, by omega, by omega⟩
    · exact ⟨by omega, by omega, by omega, by omega, by decide, one, by decide, by omega⟩
    · exact ⟨by omega, by omega, by omega, by omega, by decide, one⟩
  | lf b a k d =>
    obtain ⟨h1, h2, h3, h4, h5, h6, h7, h8⟩ := h
    have p1 := pp (d - 0)
    have p2 := pp (d - 1)
    rcases step_cases hc with e | e | e | e <;> rw [e] <;> simp only [Fm.both, Fm.after, Fm.b, Fm.a, FLs]
    · exact ⟨h1, by omega, h3, by omega, h5, sms_up h6, by omega, by omega⟩
    · exact ⟨h1, by omega, h3, by omega, h5, sms_up h6, by omega, by omega⟩
    · refine ⟨h1, by omega, h3, by omega, ?_, sms_mul h6 (by omega) (by omega), by decide, by omega⟩
      rw [Int.mul_one]
      exact Int.mul_pos h5 (by omega)
    · refine ⟨h1, by omega, h3, by omega, ?_, sms_mul h6 (by omega) (by omega)⟩
      rw [Int.mul_one]
      exact Int.mul_pos h5 (by omega)
  | cr b a k =>
    obtain ⟨h1, h2, h3, h4, h5, h6⟩ := h
    rcases step_cases hc with e | e | e | e <;> rw [e] <;> simp only [Fm.both, FLs, Int.mul_one]
    · exact ⟨h1, by omega, h3, by omega, h5, sms_up h6⟩
    · exact ⟨h1, by omega, h3, by omega, h5, sms_up h6⟩
    · exact ⟨h1, by omega, h3, by omega, h5, sms_up h6, by decide, by omega⟩
    · exact ⟨h1, by omega, h3, by omega, h5, sms_up h6⟩
theorem formL_fls (k : Nat) : ∀ cs : List Nat, cs.length = k → k ≤ 61 → (∀ c ∈ cs, c ∈ steps.cps.toList) → FLs k (formL cs) := by
  induction k with
  | zero =>
    intro cs h _ _
    rw [List.eq_nil_of_length_eq_zero h]
    exact ⟨by decide, by decide, by decide, by decide⟩
  | succ k ih =>
    intro cs h hk hc
    rcases snoc_or cs with rfl | ⟨a, c, rfl⟩
    · simp at h
    · rw [formL_snoc]
      exact (ih a (by simpa using h) (by omega) fun d hd => hc d (List.mem_append.mpr (.inl hd))).step (by omega) (hc c (by simp))
/-! ### lengths -/
theorem addTo_len (a : List (Int × Int)) (x : Int × Int) : (addTo a x).length ≤ a.length + 1 := by
  rcases snoc_or a with rfl | ⟨b, y, rfl⟩
  · exact Nat.le_refl _
  · rw [addTo_snoc]
    split <;> simp
theorem fold_len : ∀ (gs acc : List (Int × Int)), (gs.foldl addTo acc).length ≤ acc.length + gs.length
  | [], acc => Nat.le_refl _
  | g :: gs, acc => by
    have h1 := fold_len gs (addTo acc g)
    have h2 := addTo_len acc g
    rw [List.foldl_cons, List.length_cons]
    omega
theorem runAfter_len (r : List (Int × Int) × Int) (f : Fm) : (runAfter r f).1.length ≤ max r.1.length 1 := by
  cases f with
  | keep b a =>
    have := fold_len (moved (.keep b a) r.1) []
    have e : (moved (.keep b a) r.1).length = r.1.length := List.length_map ..
    show (Lx.merged (moved (.keep b a) r.1)).length ≤ _
    unfold Lx.merged
    rw [e] at this
    simp at this
    omega
  | lf b a k c =>
    show (if k * units r (.lf b a k c) = 0 then (([] : List (Int × Int)), (0 : Int)) else ([(k * units r (.lf b a k c), c)], 0)).1.length ≤ _
    split
    · exact Nat.zero_le _
    · exact Nat.le_max_right ..
  | cr b a k => exact Nat.zero_le _
theorem _root_.Lx.RnOk.mono {n m : Nat} {r : List (Int × Int) × Int} (h : RnOk n r) (k : n ≤ m) : RnOk m r :=
  ⟨fun i x hx => let ⟨h1, h2, h3, h4, h5⟩ := h.gs i x hx; ⟨h1, h2, h3.mono k, h4.mono k, h5⟩, ⟨h.rest.1, h.rest.2.mono k⟩, h.len⟩
/-- a chain of at most sixty steps from a run with numbers below 2 ^ 361 -/
theorem stepsL_ok {n : Nat} {r : List (Int × Int) × Int} (h : RnOk n r) (hn : n ≤ 361) {cs : List Nat} (hl : cs.length ≤ 60) (hc : ∀ c ∈ cs, c ∈ steps.cps.toList) : RnOk 1123 (stepsL r cs) ∧ (stepsL r cs).1.length ≤ max r.1.length 1 := by
  rw [← conv_form h _ cs rfl]
  have f := (formL_fls _ cs rfl (by omega) hc).ok
  exact ⟨runAfter_ok (h.mono hn) (f.mono (by omega)), runAfter_len r _⟩
/-! ### runs that repr can write -/
theorem pd_smallB {b : Nat} : ∀ (gs : List (Int × Int)), (∀ x ∈ gs, Sm b x.1 ∧ Sm b x.2) → smallB.smallAll b (pd gs) = true
  | [], _ => rfl
  | g :: gs, h => by
    have h1 := h g (List.mem_cons_self ..)
    have ih := pd_smallB gs fun x hx => h x (List.mem_cons_of_mem _ hx)
    unfold pd at ih ⊢
    simp only [List.map_cons, smallB.smallAll, smallB, ih, Bool.and_true]
    rw [decide_eq_true (show g.1.natAbs < 2 ^ b from h1.1), decide_eq_true (show g.2.natAbs < 2 ^ b from h1.2)]
    rfl
theorem rd_smallB {b : Nat} {g : List (Int × Int) × Int} (h : RnOk b g) : smallB b (rd g) = true := by
  have e1 := pd_smallB (b := b) g.1 fun x hx => by
    obtain ⟨i, hi⟩ := List.mem_iff_getElem?.mp hx
    exact ⟨(h.gs i x hi).2.2.1, (h.gs i x hi).2.2.2.1⟩
  unfold rd
  simp only [smallB, smallB.smallAll, e1, Bool.and_true, Bool.true_and]
  exact decide_eq_true h.rest.2
theorem pd_bulk3 (gs : List (Int × Int)) : PyData.bulkAll (pd gs) = 3 * gs.length := by
  unfold pd
  induction gs with
  | nil => rfl
  | cons g gs ih =>
    simp only [List.map_cons, PyData.bulkAll, PyData.bulk, List.length_cons]
    omega
theorem rd_bulk (g : List (Int × Int) × Int) : (rd g).bulk = 3 * g.1.length + 2 := by
  have e := pd_bulk3 g.1
  unfold rd
  simp only [PyData.bulk, PyData.bulkAll]
  omega
theorem rd_fit {g : List (Int × Int) × Int} (h : RnOk 1123 g) (hl : g.1.length ≤ 1000) : Fit (rd g) := by
  have e := rd_bulk g
  have e2 := rd_depth g
  exact fit_b (b := 1123) (by decide) (by decide) (rd_smallB h) (by omega) (by omega)
theorem rd2_fit {g h : List (Int × Int) × Int} (h1 : RnOk 1123 g) (h2 : RnOk 1123 h) (hl : g.1.length ≤ 1000) (hl2 : h.1.length ≤ 1000) : Fit (.list [rd g, rd h]) := by
  have e := rd_bulk g
  have e' := rd_bulk h
  have e2 := rd_depth g
  have e2' := rd_depth h
  refine fit_b (b := 1123) (by decide) (by decide) ?_ ?_ ?_
  · simp only [smallB, smallB.smallAll, rd_smallB h1, rd_smallB h2, Bool.and_true]
  · simp only [PyData.depth, PyData.depthAll]
    omega
  · simp only [PyData.bulk, PyData.bulkAll]
    omega
theorem int_fit {x : Int} (h : Sm 1900 x) : Fit (.int x) := by
  refine fit_b (b := 1900) (by decide) (by decide) ?_ (by simp [PyData.depth]) (by simp [PyData.bulk])
  simp only [smallB]
  exact decide_eq_true h
end Lw
namespace Lw
open PySem PySem.Spec L2 Lx
theorem cutS_head (z : Str) (k : Nat) (h : k ≤ z.cps.size) : (cutS z none (some (k : Int))).cps.toList = z.cps.toList.take k := by
  unfold cutS
  have e : z.length = z.cps.size := rfl
  rw [e, HT.sIx_none, HT.sIx_nat, Nat.min_eq_left h]
  simp
theorem cutS_tail (z : Str) (k : Nat) (h : k ≤ z.cps.size) : (cutS z (some (k : Int)) none).cps.toList = z.cps.toList.drop k := by
  unfold cutS
  have e : z.length = z.cps.size := rfl
  rw [e, HT.sIx_none, HT.sIx_nat, Nat.min_eq_left h]
  simp
  exact List.take_of_length_le (by simp)
end Lw
namespace Lw
open PySem PySem.Spec L2 Lx
theorem units_size {g : List (Int × Int) × Int} {f : Fm} (h : RnOk 361 g) (hf : f.Ok 361) : Sm 1600 (units (runAfter g f) nothing) := by
  have hu := units_ok (RnOk.sm h) hf
  cases f with
  | keep b a =>
    rw [units_both]
    have e : (Fm.keep b a).both nothing = .keep b a := by
      have p1 := pp (0 - a)
      have p2 := pp (a - 0)
      have ha := hf.2.1
      show Fm.keep (b + (if 0 - a > 0 then 0 - a else 0)) ((if a - 0 > 0 then a - 0 else 0) + 0) = _
      congr 1 <;> omega
    rw [e]
    exact hu.2.mono (by decide)
  | lf b a k c =>
    by_cases z : k * units g (.lf b a k c) = 0
    · rw [show runAfter g (.lf b a k c) = ([], 0) from if_pos z]
      exact Nat.two_pow_pos _
    · rw [show runAfter g (.lf b a k c) = ([(k * units g (.lf b a k c), c)], 0) from if_neg z, units_one, after_nothing hf.2.2.2.1]
      have h1 := hf.2.2.2.2.2.2.1.mul hu.2
      have h2 : Sm 362 (c + 1) := hf.2.2.2.2.2.2.2.add (Nat.lt_of_lt_of_le (by decide : (1 : Int).natAbs < 2 ^ 1) (Nat.pow_le_pow_right (by decide) (by decide)))
      exact (h1.mul h2).mono (by decide)
  | cr b a k =>
    show Sm 1600 (units ([], k * units g (.cr b a k)) nothing)
    rw [units_none]
    exact (hf.2.2.2.2.2.mul hu.2).mono (by decide)
theorem stepsL_units {n : Nat} {r : List (Int × Int) × Int} (h : RnOk n r) (hn : n ≤ 361) {cs : List Nat} (hl : cs.length ≤ 60) (hc : ∀ c ∈ cs, c ∈ steps.cps.toList) : Sm 1900 (units (stepsL r cs) nothing) := by
  rw [← conv_form h _ cs rfl]
  have f := (formL_fls _ cs rfl (by omega) hc).ok
  exact (units_size (h.mono hn) (f.mono (by omega))).mono (by decide)
end Lw
namespace Lw
open PySem PySem.Spec L2 Lx
/-! ### a dict of draws -/
abbrev bagK (g : Addr) (l t b : Int) : List (Key × V) := [(.inr "great", .ref g), (.inr "left", .int l), (.inr "turn", .int t), (.inr "blend", .int b)]
theorem bag_put_left {g : Addr} {l t b x : Int} : putK (bagK g l t b) (.inr "left") (.int x) = bagK g x t b := by rfl
theorem bag_put_turn {g : Addr} {l t b x : Int} : putK (bagK g l t b) (.inr "turn") (.int x) = bagK g l x b := by rfl
theorem bag_great {g : Addr} {l t b : Int} : valV (bagK g l t b) (.inr "great") = some (.ref g) := by rfl
theorem bag_left {g : Addr} {l t b : Int} : valV (bagK g l t b) (.inr "left") = some (.int l) := by rfl
theorem bag_turn {g : Addr} {l t b : Int} : valV (bagK g l t b) (.inr "turn") = some (.int t) := by rfl
theorem bag_blend {g : Addr} {l t b : Int} : valV (bagK g l t b) (.inr "blend") = some (.int b) := by rfl
def BagAt (H : Hp) (r gl : Addr) (n : Nat) : Prop := ∃ (ds : List Int) (l t b : Int), H r = some (.dK (bagK gl l t b)) ∧ H gl = some (.lst (ds.map V.int)) ∧ (∀ d ∈ ds, 0 ≤ d) ∧ 0 ≤ l ∧ 0 ≤ t ∧ t ≤ n ∧ 0 ≤ b ∧ b < 2305843009213693952 ∧ r ≠ gl
theorem bag_get {H : Hp} {r gl : Addr} {l t b : Int} {k : Str} {v : V} (h : H r = some (.dK (bagK gl l t b))) (e : valV (bagK gl l t b) (.inr k) = some v) : DGet H r (.str k) (some v) := .inl ⟨_, .inr k, .inl h, rfl, e.symm⟩
/-- all but two addresses is as it was -/
def Kb (r gl : Addr) (H H' : Hp) : Prop := ∀ b o, b ≠ r → b ≠ gl → H b = some o → H' b = some o
theorem Kb.refl (r gl : Addr) (H : Hp) : Kb r gl H H := fun _ _ _ _ h => h
theorem Kb.trans {r gl : Addr} {H H1 H2 : Hp} (a : Kb r gl H H1) (b : Kb r gl H1 H2) : Kb r gl H H2 := fun c o h1 h2 h => b c o h1 h2 (a c o h1 h2 h)
theorem Kb.of {r gl : Addr} {H H' : Hp} (s : Same H H') : Kb r gl H H' := fun b o _ _ h => s b o h
theorem Kb.upd_r {r gl : Addr} {H : Hp} {o : HO} : Kb r gl H (upd H r o) := fun b u h1 h2 h => by rw [upd_ne h1]; exact h
theorem Kb.upd_g {r gl : Addr} {H : Hp} {o : HO} : Kb r gl H (upd H gl o) := fun b u h1 h2 h => by rw [upd_ne h2]; exact h
theorem Kb.own {r gl p : Addr} {H H' : Hp} {o : HO} (k : Kb r gl H H') (h : H p = none) : Kb r gl H (upd H' p o) := fun b u h1 h2 e => by
  rw [upd_ne (ne_of_none e h)]
  exact k b u h1 h2 e
theorem BagAt.same {H H' : Hp} {r gl : Addr} {n : Nat} (s : Same H H') : BagAt H r gl n → BagAt H' r gl n := fun ⟨ds, l, t, b, h1, h2, h3⟩ => ⟨ds, l, t, b, s _ _ h1, s _ _ h2, h3⟩
theorem BagAt.mono {H : Hp} {r gl : Addr} {n m : Nat} (k : n ≤ m) : BagAt H r gl n → BagAt H r gl m := fun ⟨ds, l, t, b, h1, h2, h3, h4, h5, h6, h7⟩ => ⟨ds, l, t, b, h1, h2, h3, h4, h5, by omega, h7⟩
theorem BagAt.ne {H : Hp} {r gl p : Addr} {n : Nat} (s : BagAt H r gl n) (h : H p = none) : p ≠ r ∧ p ≠ gl := by
  obtain ⟨_, _, _, _, q1, q2, _⟩ := s
  exact ⟨Ne.symm (ne_of_none q1 h), Ne.symm (ne_of_none q2 h)⟩
theorem BagAt.neT {H : Hp} {r gl p : Addr} {n : Nat} {xs : List V} (s : BagAt H r gl n) (h : H p = some (.tup xs)) : p ≠ r ∧ p ≠ gl := by
  obtain ⟨_, _, _, _, q1, q2, _⟩ := s
  exact ⟨ne_of h q1 (by intro z; cases z), ne_of h q2 (by intro z; cases z)⟩
theorem BagAt.own {H : Hp} {r gl p : Addr} {n : Nat} {o : HO} (s : BagAt H r gl n) (ne : p ≠ r ∧ p ≠ gl) : BagAt (upd H p o) r gl n := by
  obtain ⟨ds, l, t, b, h1, h2, h3⟩ := s
  exact ⟨ds, l, t, b, by rw [upd_ne (Ne.symm ne.1)]; exact h1, by rw [upd_ne (Ne.symm ne.2)]; exact h2, h3⟩
theorem Kb.free {r gl : Addr} {H H' : Hp} {n : Nat} (k : Kb r gl H H') (s : BagAt H' r gl n) {p : Addr} (h : H' p = none) : H p = none := by
  cases e : H p with
  | none => rfl
  | some o =>
    have := k p o (s.ne h).1 (s.ne h).2 e
    rw [h] at this
    cases this
theorem Prs.kb {K : PySem.W.Frag} {H H' : Hp} {r gl : Addr} {n : Nat} (s : BagAt H r gl n) (k : Kb r gl H H') : ∀ {vs : List V} {gs : List (Int × Int)}, Prs K H vs gs → Prs K H' vs gs
  | _, _, .nil => .nil
  | _, _, .cons ⟨p, e, h⟩ t => .cons ⟨p, e, k _ _ (s.neT h).1 (s.neT h).2 h⟩ (Prs.kb s k t)
theorem RnS.kb {K : PySem.W.Frag} {H H' : Hp} {v : V} {l r gl : Addr} {n : Nat} {g : List (Int × Int) × Int} (s : BagAt H r gl n) (k : Kb r gl H H') (ne : l ≠ r ∧ l ≠ gl) : RnS K H v l g → RnS K H' v l g :=
  fun ⟨p, xs, h1, h2, h3, h4⟩ => ⟨p, xs, h1, k _ _ (s.neT h2).1 (s.neT h2).2 h2, k _ _ ne.1 ne.2 h3, Prs.kb s k h4⟩
theorem if_fin {c : L2.TT} {A B : TS} {D : Ends} {σ : St} {H : Hp} (Fin : St → Hp → Prop) (h : ∀ R : St → Hp → Prop, (∀ σ H, Fin σ H → R σ H) → tIfS c A B { D with nx := R } σ H) (hf : ∀ σ H, Fin σ H → D.nx σ H) : tIfS c A B D σ H := h D.nx hf
/-! ### groups of which some may be empty, put together -/
/-- numbers that can be reckoned with -/
def GsSm (n : Nat) (gs : List (Int × Int)) : Prop := ∀ x ∈ gs, 0 ≤ x.1 ∧ 0 ≤ x.2 ∧ Sm n x.1 ∧ Sm n x.2
def reduced (gs : List (Int × Int)) : List (Int × Int) := Lx.merged (gs.filter fun x => decide (x.1 > 0))
theorem reduced_take {gs : List (Int × Int)} {i : Nat} {x : Int × Int} (h : gs[i]? = some x) : reduced (gs.take (i + 1)) = if x.1 > 0 then addTo (reduced (gs.take i)) x else reduced (gs.take i) := by
  unfold reduced
  rw [List.take_succ, h, List.filter_append]
  by_cases hx : x.1 > 0
  · have e : List.filter (fun x : Int × Int => decide (x.1 > 0)) (some x).toList = [x] := by simp [hx]
    rw [if_pos hx, e]
    unfold Lx.merged
    rw [List.foldl_append]
    rfl
  · have e : List.filter (fun x : Int × Int => decide (x.1 > 0)) (some x).toList = [] := by simp [hx]
    rw [if_neg hx, e, List.append_nil]
theorem reduced_all {gs : List (Int × Int)} (h : ∀ x ∈ gs, x.1 > 0) : reduced gs = Lx.merged gs := by
  unfold reduced
  rw [List.filter_eq_self.mpr fun x hx => decide_eq_true (h x hx)]
theorem reduced_ok {n : Nat} {gs : List (Int × Int)} (h : GsSm n gs) (hl : gs.length ≤ 1000) : GsOk (n + 11) (reduced gs) ∧ (reduced gs).length ≤ gs.length := by
  have hf : (gs.filter fun x => decide (x.1 > 0)).length ≤ gs.length := List.length_filter_le ..
  have m := mi_fold (n := n) (gs.filter fun x => decide (x.1 > 0)) [] 0 (by omega) (fun x hx => by
    obtain ⟨h1, h2⟩ := List.mem_filter.mp hx
    have h2 := of_decide_eq_true h2
    obtain ⟨q1, q2, q3, q4⟩ := h x h1
    exact ⟨by omega, q3, q2, q4.mono (by omega)⟩) ⟨(fun i x hx => by simp at hx), (fun x hx => by cases hx), Nat.le_refl _⟩
  obtain ⟨m1, m2, m3⟩ := m
  refine ⟨m1, ?_⟩
  have : (reduced gs).length ≤ 0 + (gs.filter fun x => decide (x.1 > 0)).length := m3
  omega
end Lw
namespace Lw
open PySem PySem.Spec L2 Lx
theorem wh3 : ∀ f : Fm, ¬ (HT.sIx f.vs.length 0 (some 3) = 0 ∧ HT.sIx f.vs.length f.vs.length none = f.vs.length)
  | .keep _ _ => show ¬ (HT.sIx 3 0 (some 3) = 0 ∧ HT.sIx 3 3 none = 3) by decide
  | .lf _ _ _ _ => show ¬ (HT.sIx 5 0 (some 3) = 0 ∧ HT.sIx 5 5 none = 5) by decide
  | .cr _ _ _ => show ¬ (HT.sIx 4 0 (some 3) = 0 ∧ HT.sIx 4 4 none = 4) by decide
theorem vs_len : ∀ f : Fm, f.vs.length ≤ 5
  | .keep _ _ => by show 3 ≤ 5; decide
  | .lf _ _ _ _ => Nat.le_refl 5
  | .cr _ _ _ => by show 4 ≤ 5; decide
def Fm.isKeep : Fm → Bool
  | .keep _ _ => true
  | _ => false
/-- units of one unit -/
def Fm.one : Fm → Fm → Int
  | .lf _ _ _ c, g => g.after c + 1
  | _, _ => 1
theorem nk_k {f : Fm} (h : Fm.isKeep f = false) : ∃ k, f.vs[3]? = some (.int k) := by
  cases f with
  | keep _ _ => cases h
  | lf _ _ k _ => exact ⟨k, rfl⟩
  | cr _ _ k => exact ⟨k, rfl⟩
theorem nk_ok {f : Fm} {n : Nat} {k : Int} (h : Fm.isKeep f = false) (o : f.Ok n) (e : f.vs[3]? = some (.int k)) : 0 < k ∧ Sm n k := by
  cases f with
  | keep _ _ => cases h
  | lf _ _ _ _ => cases e; exact ⟨o.2.2.1, o.2.2.2.2.2.2.1⟩
  | cr _ _ _ => cases e; exact ⟨o.2.2.1, o.2.2.2.2.2⟩
theorem nk_pos {f : Fm} {n : Nat} (h : Fm.isKeep f = false) (o : f.Ok n) : 0 < n := by
  obtain ⟨k, e⟩ := nk_k h
  have h1 := nk_ok h o e
  have h2 : k.natAbs < 2 ^ n := h1.2
  have h3 := h1.1
  rcases Nat.eq_zero_or_pos n with z | z
  · subst z
    omega
  · exact z
theorem one_ok {f g : Fm} {n : Nat} (h : Fm.isKeep f = false) (o : f.Ok n) (og : g.Ok n) : 0 < Fm.one f g ∧ Sm (n + 2) (Fm.one f g) := by
  have h4 : 2 ^ 2 ≤ 2 ^ (n + 2) := Nat.pow_le_pow_right (by decide) (by omega)
  cases f with
  | keep _ _ => cases h
  | lf b a k c =>
    have e := Fm.after_ok og o.2.2.2.1 o.2.2.2.2.2.2.2
    have e2 : 2 ^ (n + 2) = 2 ^ (n + 1) * 2 := Nat.pow_succ 2 (n + 1)
    have e3 : (g.after c).natAbs < 2 ^ (n + 1) := e.2
    have e4 := e.1
    have e5 : 1 ≤ 2 ^ (n + 1) := Nat.one_le_two_pow
    refine ⟨by show 0 < g.after c + 1; omega, ?_⟩
    show (g.after c + 1).natAbs < 2 ^ (n + 2)
    rw [e2]
    generalize 2 ^ (n + 1) = M at *
    omega
  | cr _ _ _ => exact ⟨(by decide : (0 : Int) < 1), Nat.lt_of_lt_of_le (by decide : (1 : Int).natAbs < 2 ^ 2) h4⟩
theorem wh4 : ∀ f : Fm, ¬ (HT.sIx f.vs.length 0 (some 4) = 0 ∧ HT.sIx f.vs.length f.vs.length none = f.vs.length)
  | .keep _ _ => show ¬ (HT.sIx 3 0 (some 4) = 0 ∧ HT.sIx 3 3 none = 3) by decide
  | .lf _ _ _ _ => show ¬ (HT.sIx 5 0 (some 4) = 0 ∧ HT.sIx 5 5 none = 5) by decide
  | .cr _ _ _ => show ¬ (HT.sIx 4 0 (some 4) = 0 ∧ HT.sIx 4 4 none = 4) by decide
/-- the run that a form which keeps no groups makes of so many units -/
def ofUnits (t : Int) : Fm → List (Int × Int) × Int
  | .keep _ _ => ([], 0)
  | .lf _ _ k c => if k * t = 0 then ([], 0) else ([(k * t, c)], 0)
  | .cr _ _ k => ([], k * t)
theorem runAfter_units {r : List (Int × Int) × Int} {f : Fm} (h : Fm.isKeep f = false) : runAfter r f = ofUnits (units r f) f := by
  cases f with
  | keep _ _ => cases h
  | lf _ _ _ _ => rfl
  | cr _ _ _ => rfl
/-- the lengths of forms by their words -/
structure LenT (K : PySem.W.Frag) (w : World) (mg : Str → Option Value) (aL : Addr) : Prop where
  g : mg "FORM_LENGTHS" = some (.ref aL)
  d : ∃ es n, KDict K w aL es n
  keep : ∃ t, PySem.W.nsIn K aL "keep" = some (some (.int 3 t))
  lf : ∃ t, PySem.W.nsIn K aL "lf" = some (some (.int 5 t))
  cr : ∃ t, PySem.W.nsIn K aL "cr" = some (some (.int 4 t))
theorem LenT.at {K : PySem.W.Frag} {w : World} {mg : Str → Option Value} {aL : Addr} (T : LenT K w mg aL) : ∀ f : Fm, ∃ t, PySem.W.nsIn K aL f.nm = some (some (.int f.vs.length t))
  | .keep _ _ => T.keep
  | .lf _ _ _ _ => T.lf
  | .cr _ _ _ => T.cr
theorem cut1 (f : Fm) : cutV f.vs (some 1) none = f.nums.map V.int := by cases f <;> rfl
theorem wh : ∀ f : Fm, ¬ (HT.sIx f.vs.length 0 (some 1) = 0 ∧ HT.sIx f.vs.length f.vs.length none = f.vs.length)
  | .keep _ _ => show ¬ (HT.sIx 3 0 (some 1) = 0 ∧ HT.sIx 3 3 none = 3) by decide
  | .lf _ _ _ _ => show ¬ (HT.sIx 5 0 (some 1) = 0 ∧ HT.sIx 5 5 none = 5) by decide
  | .cr _ _ _ => show ¬ (HT.sIx 4 0 (some 1) = 0 ∧ HT.sIx 4 4 none = 4) by decide
theorem np : ∀ f : Fm, 0 < f.nums.length
  | .keep _ _ => Nat.succ_pos _
  | .lf _ _ _ _ => Nat.succ_pos _
  | .cr _ _ _ => Nat.succ_pos _
theorem nums0 {f : Fm} {n : Nat} (h : f.Ok n) : ∀ x ∈ f.nums, 0 ≤ x := by
  intro x hx
  cases f with
  | keep b a =>
    obtain ⟨h1, h2, _⟩ := h
    simp only [Fm.nums, List.mem_cons, List.not_mem_nil, or_false] at hx
    rcases hx with rfl | rfl <;> assumption
  | lf b a k c =>
    obtain ⟨h1, h2, h3, h4, _⟩ := h
    simp only [Fm.nums, List.mem_cons, List.not_mem_nil, or_false] at hx
    rcases hx with rfl | rfl | rfl | rfl
    · exact h1
    · exact h2
    · omega
    · exact h4
  | cr b a k =>
    obtain ⟨h1, h2, h3, _⟩ := h
    simp only [Fm.nums, List.mem_cons, List.not_mem_nil, or_false] at hx
    rcases hx with rfl | rfl | rfl
    · exact h1
    · exact h2
    · omega
end Lw
namespace Lw
open PySem PySem.Spec L2 Lx
/-! ### equal data -/
theorem pd_eqv : ∀ (a b : List (Int × Int)), PyData.eqvAll (pd a) (pd b) = decide (a = b)
  | [], [] => rfl
  | [], _ :: _ => rfl
  | _ :: _, [] => rfl
  | x :: xs, y :: ys => by
    have ih := pd_eqv xs ys
    unfold pd at ih ⊢
    simp only [List.map_cons, PyData.eqvAll, PyData.eqv, Bool.and_true, ih]
    obtain ⟨x1, x2⟩ := x
    obtain ⟨y1, y2⟩ := y
    by_cases h1 : x1 = y1 <;> by_cases h2 : x2 = y2 <;> by_cases h3 : xs = ys <;> simp [h1, h2, h3]
theorem rd_eqv (a b : List (Int × Int) × Int) : PyData.eqv (rd a) (rd b) = decide (a = b) := by
  have h := pd_eqv a.1 b.1
  unfold rd
  simp only [PyData.eqv, PyData.eqvAll, h, Bool.and_true]
  obtain ⟨a1, a2⟩ := a
  obtain ⟨b1, b2⟩ := b
  by_cases h1 : a1 = b1 <;> by_cases h2 : a2 = b2 <;> simp [h1, h2]
theorem fm_dp {K : PySem.W.Frag} {H : Hp} {x : V} {f : Fm} : FmAt K H x f → Dp K H x (fdt f) := fun ⟨p, e, h⟩ => by
  subst e
  cases f with
  | keep b a => exact .tup h (.cons (.str _) (.cons (.int _) (.cons (.int _) .nil)))
  | lf b a k c => exact .tup h (.cons (.str _) (.cons (.int _) (.cons (.int _) (.cons (.int _) (.cons (.int _) .nil)))))
  | cr b a k => exact .tup h (.cons (.str _) (.cons (.int _) (.cons (.int _) (.cons (.int _) .nil))))
theorem fdt_shaped (f : Fm) : SeqAt.shaped (fdt f) = true := by
  cases f <;> (unfold SeqAt.shaped fdt; simp [PyData.canLay0, PyData.canLayAll0, PyData.depth, PyData.depthAll]; decide +kernel)
theorem fdt_eqv (f g : Fm) : PyData.eqv (fdt f) (fdt g) = true ↔ f = g := by
  cases f <;> cases g <;> simp [fdt, PyData.eqv, PyData.eqvAll] <;> decide
/-! ### runs in a list -/
inductive Rns (K : PySem.W.Frag) (H : Hp) : List V → List (List (Int × Int) × Int) → Prop
  | nil : Rns K H [] []
  | cons {v : V} {vs : List V} {r : List (Int × Int) × Int} {rs : List (List (Int × Int) × Int)} : (∃ l, RnS K H v l r) → Rns K H vs rs → Rns K H (v :: vs) (r :: rs)
theorem Rns.same {K : PySem.W.Frag} {H H' : Hp} (s : Same H H') : ∀ {vs rs}, Rns K H vs rs → Rns K H' vs rs
  | _, _, .nil => .nil
  | _, _, .cons ⟨l, h⟩ t => .cons ⟨l, h.same s⟩ (t.same s)
theorem Rns.len {K : PySem.W.Frag} {H : Hp} : ∀ {vs rs}, Rns K H vs rs → vs.length = rs.length
  | _, _, .nil => rfl
  | _, _, .cons _ t => by rw [List.length_cons, List.length_cons, t.len]
theorem Rns.get {K : PySem.W.Frag} {H : Hp} : ∀ {vs rs}, Rns K H vs rs → ∀ {i : Nat} {v : V}, vs[i]? = some v → ∃ r l, rs[i]? = some r ∧ RnS K H v l r
  | _, _, .nil, i, v, h => by simp at h
  | _, _, .cons ⟨l, h1⟩ t, 0, v, h => by
    have e := Option.some.inj h
    subst e
    exact ⟨_, l, rfl, h1⟩
  | _, _, .cons h1 t, i + 1, v, h => t.get (i := i) h
theorem Rns.append {K : PySem.W.Frag} {H : Hp} : ∀ {vs ws rs qs}, Rns K H vs rs → Rns K H ws qs → Rns K H (vs ++ ws) (rs ++ qs)
  | _, _, _, _, .nil, h => h
  | _, _, _, _, .cons a t, h => .cons a (t.append h)
/-! ### forms that do the same twice -/
def sizesOf (f : Fm) : List Int := [0, 1, f.b, f.a, f.b + f.a, 2 * f.nums.sum + 5]
def tests (f : Fm) : List (List (Int × Int) × Int) := [([], 1), ([], 3)] ++ (sizesOf f).map fun j => ([(1, j)], 0)
theorem tests_ok {n : Nat} {f : Fm} (h : f.Ok n) : ∀ r ∈ tests f, RnOk (n + 10) r := by
  have hb := h.b0
  have ha := h.a0
  have one : ∀ z : Int, 0 ≤ z → z ≤ 5 → Sm (n + 10) z := fun z h0 h1 => Nat.lt_of_lt_of_le (show z.natAbs < 2 ^ 10 by
    have : (2 : Nat) ^ 10 = 1024 := by decide
    omega) (Nat.pow_le_pow_right (by decide) (by omega))
  have hs : 0 ≤ f.nums.sum ∧ Sm (n + 3) f.nums.sum := by
    have pw : 2 ^ (n + 3) = 2 ^ n * 8 := Nat.pow_add 2 n 3
    cases f with
    | keep b a =>
      obtain ⟨h1, h2, h3, h4⟩ := h
      unfold Sm at *
      simp only [Fm.nums, List.sum_cons, List.sum_nil]
      rw [pw]
      generalize 2 ^ n = M at *
      omega
    | lf b a k c =>
      obtain ⟨h1, h2, h3, h4, h5, h6, h7, h8⟩ := h
      unfold Sm at *
      simp only [Fm.nums, List.sum_cons, List.sum_nil]
      rw [pw]
      generalize 2 ^ n = M at *
      omega
    | cr b a k =>
      obtain ⟨h1, h2, h3, h4, h5, h6⟩ := h
      unfold Sm at *
      simp only [Fm.nums, List.sum_cons, List.sum_nil]
      rw [pw]
      generalize 2 ^ n = M at *
      omega
  have r0 : ∀ e : Int, 0 ≤ e → e ≤ 5 → RnOk (n + 10) ([], e) := fun e e0 e1 => ⟨fun i x hx => by simp at hx, ⟨e0, one e e0 e1⟩, Nat.zero_le _⟩
  have r1 : ∀ j : Int, 0 ≤ j → Sm (n + 10) j → RnOk (n + 10) ([(1, j)], 0) := fun j j0 j1 => ⟨gsok_snoc (gs := []) (fun i x hx => by simp at hx) (fun a y e => by simp at e) ⟨by show (1 : Int) ≤ 1; decide, j0, one 1 (by decide) (by decide), j1⟩, ⟨(by decide : (0 : Int) ≤ 0), one 0 (by decide) (by decide)⟩, by show 1 ≤ 1000; decide⟩
  have m : ∀ {z : Int} {k : Nat}, k ≤ n + 10 → Sm k z → Sm (n + 10) z := fun h1 h2 => h2.mono h1
  have pw4 : Sm (n + 10) (2 * f.nums.sum + 5) := by
    have e : 2 ^ (n + 10) = 2 ^ (n + 3) * 128 := by rw [show n + 10 = (n + 3) + 7 from rfl, Nat.pow_add]
    have e1 : 1 ≤ 2 ^ (n + 3) := Nat.one_le_two_pow
    have h1 := hs.2
    unfold Sm at *
    rw [e]
    generalize 2 ^ (n + 3) = M at *
    omega
  intro r hr
  have hr' : r ∈ [([], 1), ([], 3), ([(1, 0)], 0), ([(1, 1)], 0), ([(1, f.b)], 0), ([(1, f.a)], 0), ([(1, f.b + f.a)], 0), ([(1, 2 * f.nums.sum + 5)], (0 : Int))] := hr
  simp only [List.mem_cons, List.not_mem_nil, or_false] at hr'
  rcases hr' with rfl | rfl | rfl | rfl | rfl | rfl | rfl | rfl
  · exact r0 1 (by decide) (by decide)
  · exact r0 3 (by decide) (by decide)
  · exact r1 0 (by decide) (one 0 (by decide) (by decide))
  · exact r1 1 (by decide) (one 1 (by decide) (by decide))
  · exact r1 _ hb.1 (m (by omega) hb.2)
  · exact r1 _ ha.1 (m (by omega) ha.2)
  · exact r1 _ (by omega) (m (by omega) (hb.2.add ha.2))
  · exact r1 _ (by have := hs.1; omega) pw4
theorem sum_ge {n : Nat} {f : Fm} (h : f.Ok n) : f.b ≤ f.nums.sum := by
  cases f with
  | keep b a =>
    obtain ⟨h1, h2, _⟩ := h
    simp only [Fm.nums, List.sum_cons, List.sum_nil, Fm.b]
    omega
  | lf b a k c =>
    obtain ⟨h1, h2, h3, h4, _⟩ := h
    simp only [Fm.nums, List.sum_cons, List.sum_nil, Fm.b]
    omega
  | cr b a k =>
    obtain ⟨h1, h2, h3, _⟩ := h
    simp only [Fm.nums, List.sum_cons, List.sum_nil, Fm.b]
    omega
theorem run1 (b a j : Int) : runAfter ([(1, j)], 0) (.keep b a) = ([(1, (Fm.keep b a).after j)], 0) := rfl
theorem twice {n : Nat} {f : Fm} (h : f.Ok n) : f.both f = f ↔ ∀ r ∈ tests f, runAfter (runAfter r f) f = runAfter r f := by
  constructor
  · intro e r _
    rw [runAfter_both, e]
  · intro ht
    have t1 := ht ([], 1) (by unfold tests; simp)
    rw [runAfter_both] at t1
    cases f with
    | keep b a =>
      have one : ∀ j : Int, (([(1, j)], 0) : List (Int × Int) × Int) ∈ tests (.keep b a) → ((Fm.keep b a).both (.keep b a)).after j = (Fm.keep b a).after j := fun j hj => by
        have e := ht _ hj
        rw [runAfter_both] at e
        have eb : (Fm.keep b a).both (.keep b a) = .keep (b + if b - a > 0 then b - a else 0) ((if a - b > 0 then a - b else 0) + a) := rfl
        rw [eb] at e ⊢
        rw [run1, run1] at e
        injection e with e1 e2
        injection e1 with e3 e4
        injection e3
      have s1 := one 0 (by unfold tests sizesOf; simp)
      have s2 := one (2 * (Fm.keep b a).nums.sum + 5) (by unfold tests sizesOf; simp)
      have hs := sum_ge h
      obtain ⟨b0, a0, _, _⟩ := h
      have p1 := pp (b - a)
      have p2 := pp (a - b)
      simp only [Fm.both, Fm.ahead, Fm.after, Fm.b, Fm.a, Fm.nums, List.sum_cons, List.sum_nil] at s1 s2 hs ⊢
      generalize (if b - a > 0 then b - a else 0) = A at *
      generalize (if a - b > 0 then a - b else 0) = B at *
      have p3 := pp (0 - (b + A))
      have p4 := pp (0 - b)
      have p5 := pp (2 * (b + (a + 0)) + 5 - (b + A))
      have p6 := pp (2 * (b + (a + 0)) + 5 - b)
      congr 1 <;> omega
    | lf b a k c =>
      obtain ⟨b0, a0, k0, c0, _⟩ := h
      have u0 : 0 ≤ (Fm.lf b a k c).after c := by
        have := pp (c - b)
        show 0 ≤ (if c - b > 0 then c - b else 0) + a
        omega
      have kk : 0 < k * ((Fm.lf b a k c).after c + 1) * k := Int.mul_pos (Int.mul_pos k0 (by omega)) k0
      have un : ∀ g : Fm, units ([], 1) g = 1 := fun g => units_none 1 g
      have e1 : runAfter ([], 1) (.lf b a k c) = ([(k, c)], 0) := by
        show (if k * units ([], 1) (.lf b a k c) = 0 then (([] : List (Int × Int)), (0 : Int)) else ([(k * units ([], 1) (.lf b a k c), c)], 0)) = _
        rw [un, Int.mul_one, if_neg (by omega)]
      have e2 : runAfter ([], 1) ((Fm.lf b a k c).both (.lf b a k c)) = ([(k * ((Fm.lf b a k c).after c + 1) * k, c)], 0) := by
        show (if (k * ((Fm.lf b a k c).after c + 1) * k) * units ([], 1) (.lf b a (k * ((Fm.lf b a k c).after c + 1) * k) c) = 0 then (([] : List (Int × Int)), (0 : Int)) else ([((k * ((Fm.lf b a k c).after c + 1) * k) * units ([], 1) (.lf b a (k * ((Fm.lf b a k c).after c + 1) * k) c), c)], 0)) = _
        rw [un, Int.mul_one, if_neg (by omega)]
      rw [e1, e2] at t1
      injection t1 with t2 t3
      injection t2 with t4 t5
      injection t4 with t6 t7
      show Fm.lf b a (k * ((Fm.lf b a k c).after c + 1) * k) c = _
      rw [t6]
    | cr b a k =>
      have un : ∀ g : Fm, units ([], 1) g = 1 := fun g => units_none 1 g
      have t2 : (([] : List (Int × Int)), (k * 1 * k) * units ([], 1) (.cr b a (k * 1 * k))) = ([], k * units ([], 1) (.cr b a k)) := t1
      rw [un, un, Int.mul_one, Int.mul_one k] at t2
      injection t2 with t3 t4
      show Fm.cr b a (k * 1 * k) = _
      rw [Int.mul_one, t4]
end Lw
namespace Lw
open PySem PySem.Spec L2 Lx
theorem fm_dq' {K : PySem.W.Frag} {H : Hp} {x : V} {f : Fm} : FmAt K H x f → Dq K H x (fdt f) := fun ⟨p, e, h⟩ => by
  subst e
  cases f with
  | keep b a => exact .tup (SqT.tt h) h (.cons (.str _) (.cons (.int _) (.cons (.int _) .nil)))
  | lf b a k c => exact .tup (SqT.tt h) h (.cons (.str _) (.cons (.int _) (.cons (.int _) (.cons (.int _) (.cons (.int _) .nil)))))
  | cr b a k => exact .tup (SqT.tt h) h (.cons (.str _) (.cons (.int _) (.cons (.int _) (.cons (.int _) .nil))))
theorem fdt_self (f : Fm) : PyData.eqv (fdt f) (fdt f) = true := (fdt_eqv f f).mpr rfl
/-! ### joined forms -/
theorem kk_assoc (b a b' a' b'' a'' : Int) (h1 : 0 ≤ a) (h2 : 0 ≤ b') (h3 : 0 ≤ a') (h4 : 0 ≤ b'') :
    (b + (if b' - a > 0 then b' - a else 0)) + (if b'' - ((if a - b' > 0 then a - b' else 0) + a') > 0 then b'' - ((if a - b' > 0 then a - b' else 0) + a') else 0) =
      b + (if (b' + (if b'' - a' > 0 then b'' - a' else 0)) - a > 0 then (b' + (if b'' - a' > 0 then b'' - a' else 0)) - a else 0) ∧
    (if ((if a - b' > 0 then a - b' else 0) + a') - b'' > 0 then ((if a - b' > 0 then a - b' else 0) + a') - b'' else 0) + a'' =
      (if a - (b' + (if b'' - a' > 0 then b'' - a' else 0)) > 0 then a - (b' + (if b'' - a' > 0 then b'' - a' else 0)) else 0) + ((if a' - b'' > 0 then a' - b'' else 0) + a'') := by
  have p1 := pp (b' - a)
  have p2 := pp (a - b')
  have p3 := pp (b'' - a')
  have p4 := pp (a' - b'')
  generalize (if b' - a > 0 then b' - a else 0) = A at *
  generalize (if a - b' > 0 then a - b' else 0) = B at *
  generalize (if b'' - a' > 0 then b'' - a' else 0) = C at *
  generalize (if a' - b'' > 0 then a' - b'' else 0) = D at *
  have p5 := pp (b'' - (B + a'))
  have p6 := pp (B + a' - b'')
  have p7 := pp (b' + C - a)
  have p8 := pp (a - (b' + C))
  generalize (if b'' - (B + a') > 0 then b'' - (B + a') else 0) = E at *
  generalize (if B + a' - b'' > 0 then B + a' - b'' else 0) = F at *
  generalize (if b' + C - a > 0 then b' + C - a else 0) = G at *
  generalize (if a - (b' + C) > 0 then a - (b' + C) else 0) = I at *
  constructor <;> omega
theorem both_assoc {n : Nat} {f g h : Fm} (of : f.Ok n) (og : g.Ok n) (oh : h.Ok n) : (f.both g).both h = f.both (g.both h) := by
  have fa := of.a0.1
  have gb := og.b0.1
  have ga := og.a0.1
  have hb := oh.b0.1
  cases f with
  | keep b a =>
    cases g with
    | keep b' a' =>
      have e := kk_assoc b a b' a' h.b h.a fa gb ga hb
      cases h with
      | keep b'' a'' =>
        show Fm.keep _ _ = Fm.keep _ _
        exact congr (congrArg Fm.keep e.1) e.2
      | lf b'' a'' k'' c'' =>
        show Fm.lf _ _ _ _ = Fm.lf _ _ _ _
        exact congrFun (congrFun (congr (congrArg Fm.lf e.1) e.2) k'') c''
      | cr b'' a'' k'' =>
        show Fm.cr _ _ _ = Fm.cr _ _ _
        exact congrFun (congr (congrArg Fm.cr e.1) e.2) k''
    | lf b' a' k' c' => cases h <;> rfl
    | cr b' a' k' => cases h <;> rfl
  | lf b a k c =>
    cases g with
    | keep b' a' =>
      have e := after_both b' a' h c
      cases h with
      | keep b'' a'' =>
        show Fm.lf b a k _ = Fm.lf b a k _
        exact congrArg (Fm.lf b a k) e
      | lf b'' a'' k'' c'' =>
        show Fm.lf b a (k * ((Fm.lf b'' a'' k'' c'').after ((Fm.keep b' a').after c) + 1) * k'') c'' = Fm.lf b a (k * (((Fm.keep b' a').both (.lf b'' a'' k'' c'')).after c + 1) * k'') c''
        rw [e]
      | cr b'' a'' k'' =>
        show Fm.cr b a (k * ((Fm.cr b'' a'' k'').after ((Fm.keep b' a').after c) + 1) * k'') = Fm.cr b a (k * (((Fm.keep b' a').both (.cr b'' a'' k'')).after c + 1) * k'')
        rw [e]
    | lf b' a' k' c' =>
      cases h with
      | keep b'' a'' => rfl
      | lf b'' a'' k'' c'' =>
        show Fm.lf b a (k * ((Fm.lf b' a' k' c').after c + 1) * k' * ((Fm.lf b'' a'' k'' c'').after c' + 1) * k'') c'' = Fm.lf b a (k * ((Fm.lf b' a' k' c').after c + 1) * (k' * ((Fm.lf b'' a'' k'' c'').after c' + 1) * k'')) c''
        rw [← Int.mul_assoc, ← Int.mul_assoc]
      | cr b'' a'' k'' =>
        show Fm.cr b a (k * ((Fm.lf b' a' k' c').after c + 1) * k' * ((Fm.cr b'' a'' k'').after c' + 1) * k'') = Fm.cr b a (k * ((Fm.lf b' a' k' c').after c + 1) * (k' * ((Fm.cr b'' a'' k'').after c' + 1) * k''))
        rw [← Int.mul_assoc, ← Int.mul_assoc]
    | cr b' a' k' =>
      cases h with
      | keep b'' a'' => rfl
      | lf b'' a'' k'' c'' =>
        show Fm.lf b a (k * ((Fm.cr b' a' k').after c + 1) * k' * 1 * k'') c'' = Fm.lf b a (k * ((Fm.cr b' a' k').after c + 1) * (k' * 1 * k'')) c''
        rw [← Int.mul_assoc, ← Int.mul_assoc]
      | cr b'' a'' k'' =>
        show Fm.cr b a (k * ((Fm.cr b' a' k').after c + 1) * k' * 1 * k'') = Fm.cr b a (k * ((Fm.cr b' a' k').after c + 1) * (k' * 1 * k''))
        rw [← Int.mul_assoc, ← Int.mul_assoc]
  | cr b a k =>
    cases g with
    | keep b' a' =>
      cases h <;> rfl
    | lf b' a' k' c' =>
      cases h with
      | keep b'' a'' => rfl
      | lf b'' a'' k'' c'' =>
        show Fm.lf b a (k * 1 * k' * ((Fm.lf b'' a'' k'' c'').after c' + 1) * k'') c'' = Fm.lf b a (k * 1 * (k' * ((Fm.lf b'' a'' k'' c'').after c' + 1) * k'')) c''
        rw [← Int.mul_assoc, ← Int.mul_assoc]
      | cr b'' a'' k'' =>
        show Fm.cr b a (k * 1 * k' * ((Fm.cr b'' a'' k'').after c' + 1) * k'') = Fm.cr b a (k * 1 * (k' * ((Fm.cr b'' a'' k'').after c' + 1) * k''))
        rw [← Int.mul_assoc, ← Int.mul_assoc]
    | cr b' a' k' =>
      cases h with
      | keep b'' a'' => rfl
      | lf b'' a'' k'' c'' =>
        show Fm.lf b a (k * 1 * k' * 1 * k'') c'' = Fm.lf b a (k * 1 * (k' * 1 * k'')) c''
        rw [← Int.mul_assoc, ← Int.mul_assoc]
      | cr b'' a'' k'' =>
        show Fm.cr b a (k * 1 * k' * 1 * k'') = Fm.cr b a (k * 1 * (k' * 1 * k''))
        rw [← Int.mul_assoc, ← Int.mul_assoc]
theorem both_nothing {n : Nat} {f : Fm} (of : f.Ok n) : f.both nothing = f := by
  have ha := of.a0.1
  cases f with
  | keep b a =>
    have p1 := pp (0 - a)
    have p2 := pp (a - 0)
    show Fm.keep (b + (if 0 - a > 0 then 0 - a else 0)) ((if a - 0 > 0 then a - 0 else 0) + 0) = _
    have ha' : 0 ≤ a := ha
    congr 1 <;> omega
  | lf b a k c =>
    show Fm.lf b a k (nothing.after c) = _
    rw [after_nothing of.2.2.2.1]
  | cr b a k => rfl
theorem nothing_both {n : Nat} {f : Fm} (of : f.Ok n) : nothing.both f = f := by
  have hb := of.b0.1
  have p1 := pp (f.b - 0)
  have p2 := pp (0 - f.b)
  have e1 : 0 + (if f.b - 0 > 0 then f.b - 0 else 0) = f.b := by omega
  have e2 : (if 0 - f.b > 0 then 0 - f.b else 0) + f.a = f.a := by omega
  have e : nothing.both f = Fm.ahead (0 + (if f.b - 0 > 0 then f.b - 0 else 0)) ((if 0 - f.b > 0 then 0 - f.b else 0) + f.a) f := rfl
  rw [e, e1, e2]
  cases f <;> rfl
theorem nothing_ok (n : Nat) : nothing.Ok n := ⟨by decide, by decide, Nat.two_pow_pos n, Nat.two_pow_pos n⟩
theorem both_ok {n : Nat} (hn : 0 < n) {f g : Fm} (of : f.Ok n) (og : g.Ok n) : (f.both g).Ok (3 * n + 3) := by
  have gb := og.b0
  have ga := og.a0
  have o1 : Sm n 1 := Nat.lt_of_lt_of_le (by decide : (1 : Int).natAbs < 2 ^ 1) (Nat.pow_le_pow_right (by decide) hn)
  cases f with
  | keep b a =>
    obtain ⟨b0, a0, sb, sa⟩ := of
    have p1 := pp (g.b - a)
    have p2 := pp (a - g.b)
    have hB : 0 ≤ b + (if g.b - a > 0 then g.b - a else 0) ∧ Sm (3 * n + 3) (b + (if g.b - a > 0 then g.b - a else 0)) := ⟨by omega, (Sm.of_le (by omega) (show b + (if g.b - a > 0 then g.b - a else 0) ≤ b + g.b by omega) (sb.add gb.2)).mono (by omega)⟩
    have hA : 0 ≤ (if a - g.b > 0 then a - g.b else 0) + g.a ∧ Sm (3 * n + 3) ((if a - g.b > 0 then a - g.b else 0) + g.a) := ⟨by omega, (Sm.of_le (by omega) (show (if a - g.b > 0 then a - g.b else 0) + g.a ≤ a + g.a by omega) (sa.add ga.2)).mono (by omega)⟩
    cases g with
    | keep b' a' => exact ⟨hB.1, hA.1, hB.2, hA.2⟩
    | lf b' a' k' c' =>
      obtain ⟨_, _, k0, c0, _, _, sk, sc⟩ := og
      exact ⟨hB.1, hA.1, k0, c0, hB.2, hA.2, sk.mono (by omega), sc.mono (by omega)⟩
    | cr b' a' k' =>
      obtain ⟨_, _, k0, _, _, sk⟩ := og
      exact ⟨hB.1, hA.1, k0, hB.2, hA.2, sk.mono (by omega)⟩
  | lf b a k c =>
    obtain ⟨b0, a0, k0, c0, sb, sa, sk, sc⟩ := of
    have hc := Fm.after_ok og c0 sc
    have hu : 0 < g.after c + 1 ∧ Sm (n + 2) (g.after c + 1) := ⟨by have := hc.1; omega, hc.2.add (o1.mono (Nat.le_succ n))⟩
    cases g with
    | keep b' a' => exact ⟨b0, a0, k0, hc.1, sb.mono (by omega), sa.mono (by omega), sk.mono (by omega), hc.2.mono (by omega)⟩
    | lf b' a' k' c' =>
      obtain ⟨_, _, k0', c0', _, _, sk', sc'⟩ := og
      exact ⟨b0, a0, Int.mul_pos (Int.mul_pos k0 hu.1) k0', c0', sb.mono (by omega), sa.mono (by omega), ((sk.mul hu.2).mul sk').mono (by omega), sc'.mono (by omega)⟩
    | cr b' a' k' =>
      obtain ⟨_, _, k0', _, _, sk'⟩ := og
      exact ⟨b0, a0, Int.mul_pos (Int.mul_pos k0 hu.1) k0', sb.mono (by omega), sa.mono (by omega), ((sk.mul hu.2).mul sk').mono (by omega)⟩
  | cr b a k =>
    obtain ⟨b0, a0, k0, sb, sa, sk⟩ := of
    cases g with
    | keep b' a' => exact ⟨b0, a0, k0, sb.mono (by omega), sa.mono (by omega), sk.mono (by omega)⟩
    | lf b' a' k' c' =>
      obtain ⟨_, _, k0', c0', _, _, sk', sc'⟩ := og
      exact ⟨b0, a0, Int.mul_pos (Int.mul_pos k0 (by decide)) k0', c0', sb.mono (by omega), sa.mono (by omega), ((sk.mul o1).mul sk').mono (by omega), sc'.mono (by omega)⟩
    | cr b' a' k' =>
      obtain ⟨_, _, k0', _, _, sk'⟩ := og
      exact ⟨b0, a0, Int.mul_pos (Int.mul_pos k0 (by decide)) k0', sb.mono (by omega), sa.mono (by omega), ((sk.mul o1).mul sk').mono (by omega)⟩
/-! ### a form many times -/
def fp (f : Fm) : Nat → Fm
  | 0 => nothing
  | n + 1 => (fp f n).both f
theorem fp_ok {m : Nat} {f : Fm} (h : f.Ok m) : ∀ n : Nat, ∃ k, (fp f n).Ok k
  | 0 => ⟨0, nothing_ok 0⟩
  | n + 1 => by
    obtain ⟨k, hk⟩ := fp_ok h n
    exact ⟨_, both_ok (n := max k m + 1) (by omega) (hk.mono (by omega)) (h.mono (by omega))⟩
theorem fp_one {m : Nat} {f : Fm} (h : f.Ok m) : fp f 1 = f := nothing_both h
theorem fp_add {m : Nat} {f : Fm} (h : f.Ok m) (i : Nat) : ∀ j : Nat, (fp f i).both (fp f j) = fp f (i + j)
  | 0 => by
    obtain ⟨k, hk⟩ := fp_ok h i
    exact both_nothing hk
  | j + 1 => by
    obtain ⟨k, hk⟩ := fp_ok h i
    obtain ⟨k', hk'⟩ := fp_ok h j
    show (fp f i).both ((fp f j).both f) = (fp f (i + j)).both f
    rw [← both_assoc (n := max (max k k') m) (hk.mono (by omega)) (hk'.mono (by omega)) (h.mono (by omega)), fp_add h i j]
theorem fp_keep {b a : Int} (b0 : 0 ≤ b) (a0 : 0 ≤ a) : ∀ n : Nat, ∃ B A, fp (.keep b a) n = .keep B A ∧ 0 ≤ B ∧ B ≤ n * b ∧ 0 ≤ A ∧ A ≤ n * a
  | 0 => ⟨0, 0, rfl, by decide, by simp, by decide, by simp⟩
  | n + 1 => by
    obtain ⟨B, A, e, h1, h2, h3, h4⟩ := fp_keep b0 a0 n
    have p1 := pp (b - A)
    have p2 := pp (A - b)
    refine ⟨B + (if b - A > 0 then b - A else 0), (if A - b > 0 then A - b else 0) + a, ?_, by omega, ?_, by omega, ?_⟩
    · show (fp (.keep b a) n).both (.keep b a) = _
      rw [e]
      rfl
    · rw [Int.natCast_add, Int.add_mul]
      simp only [Int.natCast_one, Int.one_mul]
      omega
    · rw [Int.natCast_add, Int.add_mul]
      simp only [Int.natCast_one, Int.one_mul]
      omega
theorem fp_lf {m : Nat} {b a k c : Int} (h : (Fm.lf b a k c).Ok m) (hm : 0 < m) : ∀ n : Nat, ∃ K, fp (.lf b a k c) (n + 1) = .lf b a K c ∧ 0 < K ∧ Sm ((n + 1) * (2 * m + 2)) K
  | 0 => ⟨k, fp_one h, h.2.2.1, h.2.2.2.2.2.2.1.mono (by omega)⟩
  | n + 1 => by
    obtain ⟨K, e, K0, K1⟩ := fp_lf h hm n
    have hc := Fm.after_ok h h.2.2.2.1 h.2.2.2.2.2.2.2
    have o1 : Sm m 1 := Nat.lt_of_lt_of_le (by decide : (1 : Int).natAbs < 2 ^ 1) (Nat.pow_le_pow_right (by decide) hm)
    have hu : 0 < (Fm.lf b a k c).after c + 1 ∧ Sm (m + 2) ((Fm.lf b a k c).after c + 1) := ⟨by have := hc.1; omega, hc.2.add (o1.mono (Nat.le_succ m))⟩
    refine ⟨K * ((Fm.lf b a k c).after c + 1) * k, ?_, Int.mul_pos (Int.mul_pos K0 hu.1) h.2.2.1, ((K1.mul hu.2).mul h.2.2.2.2.2.2.1).mono ?_⟩
    · show (fp (.lf b a k c) (n + 1)).both (.lf b a k c) = _
      rw [e]
      rfl
    · have : (n + 1 + 1) * (2 * m + 2) = (n + 1) * (2 * m + 2) + (2 * m + 2) := by rw [Nat.add_mul (n + 1) 1, Nat.one_mul]
      omega
theorem fp_cr {m : Nat} {b a k : Int} (h : (Fm.cr b a k).Ok m) (hm : 0 < m) : ∀ n : Nat, ∃ K, fp (.cr b a k) (n + 1) = .cr b a K ∧ 0 < K ∧ Sm ((n + 1) * (2 * m + 2)) K
  | 0 => ⟨k, fp_one h, h.2.2.1, h.2.2.2.2.2.mono (by omega)⟩
  | n + 1 => by
    obtain ⟨K, e, K0, K1⟩ := fp_cr h hm n
    have o1 : Sm m 1 := Nat.lt_of_lt_of_le (by decide : (1 : Int).natAbs < 2 ^ 1) (Nat.pow_le_pow_right (by decide) hm)
    refine ⟨K * 1 * k, ?_, Int.mul_pos (Int.mul_pos K0 (by decide)) h.2.2.1, ((K1.mul o1).mul h.2.2.2.2.2).mono ?_⟩
    · show (fp (.cr b a k) (n + 1)).both (.cr b a k) = _
      rw [e]
      rfl
    · have : (n + 1 + 1) * (2 * m + 2) = (n + 1) * (2 * m + 2) + (2 * m + 2) := by rw [Nat.add_mul (n + 1) 1, Nat.one_mul]
      omega
/-- how often a form may be repeated here -/
def Often (f : Fm) (n : Nat) : Prop := n ≤ 100 ∨ (Fm.isKeep f = true ∧ n ≤ 2 ^ 100)
theorem Often.le {f : Fm} {n m : Nat} (h : Often f n) (k : m ≤ n) : Often f m := by
  rcases h with h | ⟨h1, h2⟩
  · exact .inl (by omega)
  · exact .inr ⟨h1, Nat.le_trans k h2⟩
theorem fp_sm {m : Nat} {f : Fm} (h : f.Ok m) (hm : 0 < m) (hm2 : m ≤ 440) {n : Nat} (o : Often f n) : (fp f n).Ok 90000 := by
  cases f with
  | keep b a =>
    obtain ⟨b0, a0, sb, sa⟩ := h
    obtain ⟨B, A, e, h1, h2, h3, h4⟩ := fp_keep b0 a0 n
    have hn : n ≤ 2 ^ 100 := by
      rcases o with o | o
      · exact Nat.le_trans o (by decide +kernel)
      · exact o.2
    have sn : Sm 101 (n : Int) := by
      unfold Sm
      have : (2 : Nat) ^ 101 = 2 ^ 100 * 2 := Nat.pow_succ ..
      omega
    rw [e]
    exact ⟨h1, h3, (Sm.of_le h1 h2 (sn.mul sb)).mono (by omega), (Sm.of_le h3 h4 (sn.mul sa)).mono (by omega)⟩
  | lf b a k c =>
    have hn : n ≤ 100 := by
      rcases o with o | o
      · exact o
      · cases o.1
    cases n with
    | zero => exact nothing_ok _
    | succ n =>
      obtain ⟨K, e, K0, K1⟩ := fp_lf h hm n
      obtain ⟨b0, a0, k0, c0, sb, sa, sk, sc⟩ := h
      rw [e]
      have : (n + 1) * (2 * m + 2) ≤ 100 * 882 := Nat.mul_le_mul (by omega) (by omega)
      exact ⟨b0, a0, K0, c0, sb.mono (by omega), sa.mono (by omega), K1.mono (by omega), sc.mono (by omega)⟩
  | cr b a k =>
    have hn : n ≤ 100 := by
      rcases o with o | o
      · exact o
      · cases o.1
    cases n with
    | zero => exact nothing_ok _
    | succ n =>
      obtain ⟨K, e, K0, K1⟩ := fp_cr h hm n
      obtain ⟨b0, a0, k0, sb, sa, sk⟩ := h
      rw [e]
      have : (n + 1) * (2 * m + 2) ≤ 100 * 882 := Nat.mul_le_mul (by omega) (by omega)
      exact ⟨b0, a0, K0, sb.mono (by omega), sa.mono (by omega), K1.mono (by omega)⟩
end Lw
namespace Lw
open PySem PySem.Spec L2 Lx
/-! ### chains put together -/
theorem formL_fle (k : Nat) : ∀ cs : List Nat, cs.length = k → k ≤ 7000 → (∀ c ∈ cs, c ∈ steps.cps.toList) → FLe k (formL cs) := by
  induction k with
  | zero =>
    intro cs e _ _
    rw [List.eq_nil_of_length_eq_zero e]
    exact ⟨by decide, by decide, by decide, by decide⟩
  | succ k ih =>
    intro cs e hk hc
    rcases snoc_or cs with rfl | ⟨ds, c, rfl⟩
    · cases e
    · have ed : ds.length = k := by simpa using e
      have h := ih ds ed (by omega) fun x hx => hc x (List.mem_append.mpr (.inl hx))
      have e2 : formL (ds ++ [c]) = (formL ds).both (stepF c) := by unfold formL; rw [List.foldl_append]; rfl
      rw [e2]
      exact h.step (by omega) (hc c (by simp))
theorem step_ok {c : Nat} (h : c ∈ steps.cps.toList) {n : Nat} (hn : 0 < n) : (stepF c).Ok n := by
  have one : Sm n 1 := Nat.lt_of_lt_of_le (by decide : (1 : Int).natAbs < 2 ^ 1) (Nat.pow_le_pow_right (by decide) hn)
  have zer : Sm n 0 := Nat.two_pow_pos n
  rcases step_cases h with e | e | e | e <;> rw [e]
  · exact ⟨by decide, by decide, zer, one⟩
  · exact ⟨by decide, by decide, one, zer⟩
  · exact ⟨by decide, by decide, by decide, by decide, zer, zer, one, zer⟩
  · exact ⟨by decide, by decide, by decide, zer, zer, one⟩
theorem formL_app7 (a : List Nat) (ha : ∀ c ∈ a, c ∈ steps.cps.toList) (n : Nat) : ∀ b : List Nat, b.length = n → (∀ c ∈ b, c ∈ steps.cps.toList) → a.length + b.length ≤ 7000 → formL (a ++ b) = (formL a).both (formL b) := by
  induction n with
  | zero =>
    intro b e _ hl
    rw [List.eq_nil_of_length_eq_zero e, List.append_nil]
    exact (both_nothing (formL_fle _ a rfl (by omega) ha).ok).symm
  | succ n ih =>
    intro b e hb hl
    rcases snoc_or b with rfl | ⟨ds, c, rfl⟩
    · cases e
    · have ed : ds.length = n := by simpa using e
      have hd : ∀ x ∈ ds, x ∈ steps.cps.toList := fun x hx => hb x (List.mem_append.mpr (.inl hx))
      have hc := hb c (by simp)
      have hl2 : (ds ++ [c]).length = ds.length + 1 := by simp
      have e2 : ∀ xs : List Nat, formL (xs ++ [c]) = (formL xs).both (stepF c) := fun xs => by unfold formL; rw [List.foldl_append]; rfl
      rw [← List.append_assoc, e2, ih ds ed hd (by omega), e2]
      have oa := (formL_fle _ a rfl (by omega) ha).ok
      have ob := (formL_fle _ ds rfl (by omega) hd).ok
      refine both_assoc (n := 13 * 7000 + 1) (oa.mono (by omega)) (ob.mono (by omega)) (step_ok hc (by omega))
theorem formOf_app {x y : Str} (hx : ChOk x) (hy : ChOk y) (hl : x.cps.size + y.cps.size ≤ 7000) : formOf (x ++ y) = (formOf x).both (formOf y) := by
  have e : (x ++ y).cps.toList = x.cps.toList ++ y.cps.toList := Array.toList_append ..
  unfold formOf
  rw [e]
  exact formL_app7 _ hx _ _ rfl hy (by rw [Array.length_toList, Array.length_toList]; exact hl)
theorem ChOk.app {x y : Str} (hx : ChOk x) (hy : ChOk y) : ChOk (x ++ y) := fun c hc => by
  have e : (x ++ y).cps.toList = x.cps.toList ++ y.cps.toList := Array.toList_append ..
  rw [e] at hc
  rcases List.mem_append.mp hc with h | h
  · exact hx c h
  · exact hy c h
theorem app_sz (x y : Str) : (x ++ y).cps.size = x.cps.size + y.cps.size := Array.size_append ..
theorem formOf_fle {x : Str} (hx : ChOk x) (hl : x.cps.size ≤ 7000) : FLe x.cps.size (formOf x) := formL_fle _ _ (Array.length_toList ..) hl hx
theorem formOf_ok {x : Str} (hx : ChOk x) (hl : x.cps.size ≤ 7000) : (formOf x).Ok 91001 := (formOf_fle hx hl).ok.mono (by omega)
/-! ### copies by name -/
inductive Ents (K : PySem.W.Frag) (H : Hp) : List (Key × V) → List (Str × Str) → Prop
  | nil : Ents K H [] []
  | cons {kvs : List (Key × V)} {zs : List (Str × Str)} {v : V} {n z : Str} : FmAt K H v (formOf z) → Ents K H kvs zs → Ents K H ((.inr n, v) :: kvs) ((n, z) :: zs)
theorem Ents.same {K : PySem.W.Frag} {H H' : Hp} (s : ∀ v f, FmAt K H v f → FmAt K H' v f) : ∀ {kvs : List (Key × V)} {zs : List (Str × Str)}, Ents K H kvs zs → Ents K H' kvs zs
  | _, _, .nil => .nil
  | _, _, .cons h t => .cons (s _ _ h) (t.same s)
theorem Ents.len {K : PySem.W.Frag} {H : Hp} : ∀ {kvs : List (Key × V)} {zs : List (Str × Str)}, Ents K H kvs zs → kvs.length = zs.length
  | _, _, .nil => rfl
  | _, _, .cons _ t => by rw [List.length_cons, List.length_cons, t.len]
theorem Ents.get {K : PySem.W.Frag} {H : Hp} {n z : Str} : ∀ {kvs : List (Key × V)} {zs : List (Str × Str)}, Ents K H kvs zs → zs.lookup n = some z → ∃ v, valV kvs (.inr n) = some v ∧ FmAt K H v (formOf z)
  | _, _, .nil, e => by cases e
  | _, _, .cons (n := m) (z := y) (v := v) (kvs := kvs) (zs := zs) h t, e => by
    by_cases c : m = n
    · subst c
      rw [List.lookup_cons_self] at e
      cases e
      exact ⟨v, valV_pos rfl, h⟩
    · rw [List.lookup_cons, show (n == m) = false from beq_false_of_ne (Ne.symm c)] at e
      obtain ⟨u, h1, h2⟩ := Ents.get t e
      exact ⟨u, (valV_neg (fun z => c (Sum.inr.inj z))).trans h1, h2⟩
/-- in its place, or at the end -/
def putZ : List (Str × Str) → Str → Str → List (Str × Str)
  | [], n, z => [(n, z)]
  | (m, y) :: r, n, z => if m = n then (m, z) :: r else (m, y) :: putZ r n z
theorem putZ_len : ∀ (zs : List (Str × Str)) (n z : Str), (putZ zs n z).length ≤ zs.length + 1
  | [], _, _ => Nat.le_refl _
  | (m, y) :: r, n, z => by
    have := putZ_len r n z
    unfold putZ
    split
    · exact Nat.le_succ _
    · show _ + 1 ≤ _ + 1 + 1
      omega
theorem putZ_get (n z m : Str) : ∀ zs : List (Str × Str), (putZ zs n z).lookup m = if m = n then some z else zs.lookup m
  | [] => by
    show List.lookup m [(n, z)] = _
    rw [List.lookup_cons]
    by_cases c : m = n
    · subst c
      simp
    · rw [show (m == n) = false from beq_false_of_ne c, if_neg c]
  | (k, y) :: r => by
    unfold putZ
    by_cases c : k = n
    · subst c
      rw [if_pos rfl, List.lookup_cons, List.lookup_cons]
      by_cases d : m = k
      · subst d
        simp
      · rw [show (m == k) = false from beq_false_of_ne d, if_neg d]
    · rw [if_neg c, List.lookup_cons, List.lookup_cons, putZ_get n z m r]
      by_cases d : m = k
      · subst d
        rw [if_neg c]
        simp [c]
      · rw [show (m == k) = false from beq_false_of_ne d]
/-- no name twice -/
def NdZ (zs : List (Str × Str)) : Prop := (zs.map Prod.fst).Nodup
theorem map_same {kvs : List (Key × V)} {n : Str} {v : V} (h : ∀ kv ∈ kvs, kv.1 ≠ .inr n) : kvs.map (fun kv => if kv.1 = .inr n then (kv.1, v) else kv) = kvs := by
  induction kvs with
  | nil => rfl
  | cons p r ih =>
    rw [List.map_cons, ih fun kv hkv => h kv (List.mem_cons_of_mem _ hkv), if_neg (h p (List.mem_cons_self ..))]
theorem Ents.keys {K : PySem.W.Frag} {H : Hp} {n : Str} : ∀ {kvs : List (Key × V)} {zs : List (Str × Str)}, Ents K H kvs zs → n ∉ zs.map Prod.fst → ∀ kv ∈ kvs, kv.1 ≠ .inr n
  | _, _, .nil, _, kv, hkv => by cases hkv
  | _, _, .cons (n := m) h t, hn, kv, hkv => by
    rcases List.mem_cons.mp hkv with rfl | hkv
    · exact fun e => hn (List.mem_cons.mpr (.inl (Sum.inr.inj e).symm))
    · exact Ents.keys t (fun e => hn (List.mem_cons_of_mem _ e)) kv hkv
theorem Ents.put {K : PySem.W.Frag} {H : Hp} {n z : Str} {v : V} (hv : FmAt K H v (formOf z)) : ∀ {kvs : List (Key × V)} {zs : List (Str × Str)}, Ents K H kvs zs → NdZ zs → Ents K H (putK kvs (.inr n) v) (putZ zs n z)
  | _, _, .nil, _ => .cons hv .nil
  | _, _, .cons (n := m) (z := y) (v := u) (kvs := kvs) (zs := zs) h t, nd => by
    have nd' : m ∉ zs.map Prod.fst ∧ NdZ zs := List.nodup_cons.mp nd
    unfold putZ
    by_cases c : m = n
    · subst c
      have e : putK ((.inr m, u) :: kvs) (.inr m : Key) v = (.inr m, v) :: kvs := by
        unfold putK
        rw [if_pos (by simp), List.map_cons, if_pos rfl, map_same (t.keys nd'.1)]
      rw [e, if_pos rfl]
      exact .cons hv t
    · have ih := Ents.put (n := n) hv t nd'.2
      have cn : ¬ ((.inr m : Key) = .inr n) := fun e => c (Sum.inr.inj e)
      have e : putK ((.inr m, u) :: kvs) (.inr n : Key) v = (.inr m, u) :: putK kvs (.inr n) v := by
        unfold putK
        by_cases a : (kvs.any fun kv => decide (kv.1 = (.inr n : Key))) = true
        · rw [if_pos (by rw [List.any_cons, a]; simp), if_pos a, List.map_cons, if_neg cn]
        · rw [if_neg (by rw [List.any_cons, decide_eq_false cn]; simpa using a), if_neg a]
          rfl
      rw [e, if_neg c]
      exact .cons h ih
theorem putZ_mem {n z : Str} : ∀ {zs : List (Str × Str)} {m : Str}, m ∈ (putZ zs n z).map Prod.fst → m = n ∨ m ∈ zs.map Prod.fst
  | [], m, h => .inl (by simpa [putZ] using h)
  | (k, y) :: r, m, h => by
    unfold putZ at h
    by_cases c : k = n
    · rw [if_pos c] at h
      exact .inr h
    · rw [if_neg c] at h
      rcases List.mem_cons.mp h with rfl | h
      · exact .inr (List.mem_cons_self ..)
      · exact (putZ_mem h).imp id fun q => List.mem_cons_of_mem _ q
theorem putZ_nd {n z : Str} : ∀ {zs : List (Str × Str)}, NdZ zs → NdZ (putZ zs n z)
  | [], _ => by unfold NdZ putZ; simp
  | (k, y) :: r, h => by
    have h' : k ∉ r.map Prod.fst ∧ NdZ r := List.nodup_cons.mp h
    unfold putZ
    by_cases c : k = n
    · rw [if_pos c]
      exact h
    · rw [if_neg c]
      refine List.nodup_cons.mpr ⟨fun hm => ?_, putZ_nd h'.2⟩
      rcases putZ_mem hm with e | e
      · exact c e
      · exact h'.1 e
/-- chains that may be put together with k letters more -/
def ZOk (L : Nat) (zs : List (Str × Str)) : Prop := ∀ n z, zs.lookup n = some z → ChOk z ∧ z.cps.size ≤ L
theorem ZOk.put {L : Nat} {zs : List (Str × Str)} {n z : Str} (h : ZOk L zs) (hz : ChOk z) (hl : z.cps.size ≤ L) : ZOk L (putZ zs n z) := fun m y e => by
  rw [putZ_get] at e
  by_cases c : m = n
  · rw [if_pos c] at e
    cases e
    exact ⟨hz, hl⟩
  · rw [if_neg c] at e
    exact h m y e
theorem ZOk.mono {L L' : Nat} {zs : List (Str × Str)} (h : ZOk L zs) (k : L ≤ L') : ZOk L' zs := fun n z e => ⟨(h n z e).1, Nat.le_trans (h n z e).2 k⟩
/-- a depot stands at p, its dict at d -/
structure DepAt (K : PySem.W.Frag) (C : Addr) (H : Hp) (p d : Addr) (zs : List (Str × Str)) : Prop where
  ob : ∃ dx, H p = some (.ins C dx [("_forms", .ref d)])
  dc : ∃ kvs, H d = some (.dK kvs) ∧ Ents K H kvs zs
  nd : NdZ zs
theorem DepAt.same {K : PySem.W.Frag} {C : Addr} {H H' : Hp} {p d : Addr} {zs : List (Str × Str)} (s : Same H H') (h : DepAt K C H p d zs) : DepAt K C H' p d zs := by
  obtain ⟨⟨dx, h1⟩, ⟨kvs, h2, h3⟩, h4⟩ := h
  exact ⟨⟨dx, s _ _ h1⟩, ⟨kvs, s _ _ h2, h3.same fun v f hv => hv.same s⟩, h4⟩
/-- all but one address is as it was -/
def Kd (d : Addr) (H H' : Hp) : Prop := ∀ b o, b ≠ d → H b = some o → H' b = some o
theorem Kd.refl (d : Addr) (H : Hp) : Kd d H H := fun _ _ _ h => h
theorem Kd.trans {d : Addr} {H H1 H2 : Hp} (a : Kd d H H1) (b : Kd d H1 H2) : Kd d H H2 := fun c o h1 h => b c o h1 (a c o h1 h)
theorem Kd.of {d : Addr} {H H' : Hp} (s : Same H H') : Kd d H H' := fun b o _ h => s b o h
theorem FmAt.kd {K : PySem.W.Frag} {H H' : Hp} {d : Addr} {kvs : List (Key × V)} (hd : H d = some (.dK kvs)) (k : Kd d H H') {v : V} {f : Fm} : FmAt K H v f → FmAt K H' v f := fun ⟨p, h1, h2⟩ => ⟨p, h1, by
  rcases h2 with (h | ⟨o, h⟩) | h
  · exact .inl (.inl (k _ _ (ne_of h hd (by intro z; cases z)) h))
  · exact .inl (.inr ⟨o, k _ _ (ne_of h hd (by intro z; cases z)) h⟩)
  · exact .inr h⟩
end Lw
namespace Lw
open PySem PySem.Spec L2 Lx
theorem asgK {v : V} {g : TG} {D : Ends} {σ : St} {H : Hp} (h : g v σ H D.nx) : tAsg (tC v) g D σ H := h
theorem op_eqDK {X : Cx} {K : PySem.W.Frag} (hK : X.K = K) (hu : X.A.units + 64 < cLine) : OpR X (compareOp .Eq) (rEqD K) := by
  subst hK
  exact op_eqD hu
theorem op_neDK {X : Cx} {K : PySem.W.Frag} (hK : X.K = K) (hu : X.A.units + 64 < cLine) : OpR X (compareOp .NotEq) (rNeD K) := by
  subst hK
  exact op_neD hu
/-! ### a pool of draws: a list of three numbers -/
def PoolAt (H : Hp) (p : Addr) (n : Nat) : Prop := ∃ a m k : Int, H p = some (.lst [.int a, .int m, .int k]) ∧ 0 ≤ a ∧ 0 ≤ m ∧ m < 9223372036854775808 ∧ 0 ≤ k ∧ k ≤ n
theorem PoolAt.same {H H' : Hp} {p : Addr} {n : Nat} (s : Same H H') : PoolAt H p n → PoolAt H' p n := fun ⟨a, m, k, h, r⟩ => ⟨a, m, k, s _ _ h, r⟩
theorem PoolAt.mono {H : Hp} {p : Addr} {n m : Nat} (h : n ≤ m) : PoolAt H p n → PoolAt H p m := fun ⟨a, x, k, h1, h2, h3, h4, h5, h6⟩ => ⟨a, x, k, h1, h2, h3, h4, h5, by omega⟩
theorem PoolAt.ne {H : Hp} {p b : Addr} {n : Nat} (s : PoolAt H p n) (h : H b = none) : b ≠ p := by
  obtain ⟨_, _, _, q, _⟩ := s
  exact Ne.symm (ne_of_none q h)
theorem PoolAt.neT {H : Hp} {p b : Addr} {n : Nat} {xs : List V} (s : PoolAt H p n) (h : H b = some (.tup xs)) : b ≠ p := by
  obtain ⟨_, _, _, q, _⟩ := s
  exact ne_of h q (by intro z; cases z)
theorem PoolAt.own {H : Hp} {p b : Addr} {n : Nat} {o : HO} (s : PoolAt H p n) (ne : b ≠ p) : PoolAt (upd H b o) p n := by
  obtain ⟨a, m, k, h, r⟩ := s
  exact ⟨a, m, k, by rw [upd_ne (Ne.symm ne)]; exact h, r⟩
theorem Kd.put {d : Addr} {H : Hp} {o : HO} : Kd d H (upd H d o) := fun b u hb e => by rw [upd_ne hb]; exact e
theorem Kd.own {d b : Addr} {H H' : Hp} {o : HO} (k : Kd d H H') (h : H b = none) : Kd d H (upd H' b o) := fun c u hc e => by
  rw [upd_ne (ne_of_none e h)]
  exact k c u hc e
theorem Kd.freeP {d b : Addr} {H H' : Hp} {n : Nat} (k : Kd d H H') (s : PoolAt H' d n) (h : H' b = none) : H b = none := by
  cases e : H b with
  | none => rfl
  | some o =>
    have := k b o (s.ne h) e
    rw [h] at this
    cases this
theorem Prs.kd {K : PySem.W.Frag} {H H' : Hp} {d : Addr} {n : Nat} (s : PoolAt H d n) (k : Kd d H H') : ∀ {vs : List V} {gs : List (Int × Int)}, Prs K H vs gs → Prs K H' vs gs
  | _, _, .nil => .nil
  | _, _, .cons ⟨p, e, h⟩ t => .cons ⟨p, e, k _ _ (s.neT h) h⟩ (Prs.kd s k t)
theorem RnS.kd {K : PySem.W.Frag} {H H' : Hp} {v : V} {l d : Addr} {n : Nat} {g : List (Int × Int) × Int} (s : PoolAt H d n) (k : Kd d H H') (ne : l ≠ d) : RnS K H v l g → RnS K H' v l g :=
  fun ⟨p, xs, h1, h2, h3, h4⟩ => ⟨p, xs, h1, k _ _ (s.neT h2) h2, k _ _ ne h3, Prs.kd s k h4⟩
end Lw
namespace Lw
open PySem PySem.Spec L2 Lx
theorem scPool : FnScope ["script", "at", "cell"] ["script", "at"] (defScope sLPool) := ⟨rfl, rfl, rfl, by decide +kernel, rfl, by decide +kernel, by decide +kernel⟩
theorem scDraw : FnScope ["pool", "many", "drawn", "mixed"] ["pool", "many"] (defScope sLDraw) := ⟨rfl, rfl, rfl, by decide +kernel, rfl, by decide +kernel, by decide +kernel⟩
def spPool (K : PySem.W.Frag) : Sp := fun vs H Q _ => ∃ (a : Addr) (ns : List Int) (i : Nat), vs = [.ref a, .int (i : Int)] ∧ SqL K H a (ns.map V.int) ∧ ns.length ≤ 63 ∧ i ≤ 63 ∧ ∀ H' r, Same H H' → H r = none → PoolAt H' r 0 → Q (.ref r) H'
def spDraw : Sp := fun vs H Q _ => ∃ (r : Addr) (n : Nat) (m : Int), vs = [.ref r, .int m] ∧ PoolAt H r n ∧ n < 1000000000 ∧ 0 < m ∧ m.natAbs < 2 ^ 4000 ∧ ∀ v H', 0 ≤ v → v < m → PoolAt H' r (n + 1) → Kd r H H' → Q (.int v) H'
structure PlF (mg : Str → Option Value) : Prop where
  len : mg "len" = none
  max : mg "max" = none
  abs : mg "abs" = none
theorem n_m1 : (162259276829213363391578010288127 : Int) ≠ 0 := by decide
theorem n_m2 : (170141183460469231731687303715884105727 : Int) ≠ 0 := by decide
theorem n_61 : (2305843009213693951 : Int) ≠ 0 := by decide
section
variable {P : Program} {w : World} {K : PySem.W.Frag} {mg : Str → Option Value} {base : Heap}
theorem ok_pool {f : Addr} {fd : FuncData} {k : Nat} (F : Fun K "_law_pool" "_law_pool" sLPool f fd) (Z : PlF mg) : FnOk P w K mg base CX0 (k + 1) f fd ["script", "at"] (spPool K) := by
  refine F.ok scPool (fun vs H Q E h => ?_) (fun cdv A outer s H vs Q E hr h => ?_)
  · obtain ⟨a, ns, i, rfl, _⟩ := h
    rfl
  · obtain ⟨a, ns, i, rfl, hS, hlen, hi, q⟩ := h
    refine ⟨_, (pss_cons (ps_set (i := 2) scPool.nd rfl (.inl rfl) pe_int)
      (pss_cons (ps_if (pt_cmpR op_lt (pv 1) (pe_callB call_len_seq (by rfl) Z.len PySem.boot_len (pa_cons (pv 0) pa_nil)) (nomark _))
          (pss_one (ps_set (i := 2) scPool.nd rfl (.inl rfl) (pe_ix ix_list (pv 0) (pv 1) (fun _ _ => rfl)))) pss_nil)
      (pss_one (ps_ret (pe_lst (pa_cons (pe_callB (call_max2 rfl) (by rfl) Z.max (by decide +kernel) (pa_cons pe_int (pa_cons (pe_op op_sub (pe_callB call_abs (by rfl) Z.abs (by decide +kernel) (pa_cons (pv 2) pa_nil)) (pe_op op_pow pe_int pe_int)) pa_nil))) (pa_cons (pe_op op_add (pe_op op_modN (pv 2) pe_int) (pe_op op_mul pe_int (pe_op op_add (pv 1) pe_int))) (pa_cons pe_int pa_nil)))))))), ?_⟩
    refine asgK ?_
    dsimp only [gName, tNext, tSeq]
    refine if_fin (fun σ H1 => ∃ c : Int, σ = [some (.ref a), some (.int (i : Int)), some (.int c)] ∧ H1 = H) (fun R hR => ?_) (fun σ H1 hF => ?_)
    · refine ⟨_, rfl, _, rfl, a, _, rfl, .inl hS, _, _, rfl, rfl, _, rfl, ite2 (fun c => ?_) (fun c => ?_)⟩
      · have hl : i < (ns.map V.int).length := Int.ofNat_lt.mp (of_decide_eq_true c)
        refine ⟨_, rfl, _, rfl, a, _, _, _, rfl, rfl, hS, atI_nat (j := i) (List.getElem?_eq_getElem hl), ?_⟩
        rw [List.getElem_map]
        exact hR _ _ ⟨_, rfl, rfl⟩
      · exact hR _ _ ⟨0, rfl, rfl⟩
    · obtain ⟨c, rfl, rfl⟩ := hF
      have f1 := fm (a := c) (show (0 : Int) < 2305843009213693951 by decide)
      refine ⟨_, rfl, _, rfl, _, _, rfl, rfl, ⟨by decide, by decide, by decide⟩, _, _, rfl, rfl, _, _, rfl, ?_⟩
      refine ⟨_, rfl, _, _, rfl, rfl, n_61, _, rfl, _, _, rfl, rfl, _, _, rfl, rfl, .inl ⟨by decide, by decide⟩, _, _, rfl, rfl, by show 3 ≤ sizeLine; decide, fun r nr => ?_⟩
      exact q _ r (same_upd nr) nr ⟨_, _, _, upd_same, by split <;> omega, by omega, by omega, by decide, by decide⟩
theorem ok_draw {f : Addr} {fd : FuncData} {k : Nat} (F : Fun K "_law_draw" "_law_draw" sLDraw f fd) : FnOk P w K mg base CX0 (k + 1) f fd ["pool", "many"] spDraw := by
  refine F.ok scDraw (fun vs H Q E h => ?_) (fun cdv A outer s H vs Q E hr h => ?_)
  · obtain ⟨r, n, m, rfl, _⟩ := h
    rfl
  · obtain ⟨r, n, m, rfl, ⟨a, x, t, h1, h2, h3, h4, h5, h6⟩, hn, hm0, hm1, q⟩ := h
    refine ⟨_, (pss_cons (ps_if (pt_cmpR op_gt (pe_ix ix_list (pv 0) pe_int (fun _ _ => rfl)) pe_int (nomark _))
          (pss_cons (ps_set (i := 2) scDraw.nd rfl (.inl rfl) (pe_op op_modN (pe_ix ix_list (pv 0) pe_int (fun _ _ => rfl)) (pv 1)))
          (pss_cons (ps_asg (pe_op op_fdivW (pe_ix ix_list (pv 0) pe_int (fun _ _ => rfl)) (pv 1)) (pg_sub (pv 0) pe_int set_list))
          (pss_one (ps_ret (pv 2))))) pss_nil)
      (pss_cons (ps_asg (pe_op op_add (pe_ix ix_list (pv 0) pe_int (fun _ _ => rfl)) pe_int) (pg_sub (pv 0) pe_int set_list))
      (pss_cons (ps_set (i := 3) scDraw.nd rfl (.inl rfl) (pe_op op_modN (pe_op op_powW (pe_op op_add (pe_ix ix_list (pv 0) pe_int (fun _ _ => rfl)) (pe_op op_mul pe_int (pe_ix ix_list (pv 0) pe_int (fun _ _ => rfl)))) pe_int) pe_int))
      (pss_cons (ps_set (i := 3) scDraw.nd rfl (.inl rfl) (pe_op op_modN (pe_op op_powW (pe_op op_add (pv 3) (pe_op op_mul pe_int (pe_ix ix_list (pv 0) pe_int (fun _ _ => rfl)))) pe_int) pe_int))
      (pss_one (ps_ret (pe_op op_modN (pe_op op_fdiv (pv 3) pe_int) (pv 1)))))))), ?_⟩
    have hmn : m ≠ 0 := by omega
    dsimp only [gName, tNext, tSeq]
    refine if_fin (fun σ H1 => σ = [some (.ref r), some (.int m), none, none] ∧ H1 = H) (fun R hR => ?_) (fun σ H1 hF => ?_)
    · refine ⟨_, rfl, r, _, 0, _, rfl, rfl, .inl (.inl h1), atI_nat (j := 0) rfl, _, _, rfl, rfl, _, rfl, ite2 (fun c => ?_) (fun c => hR _ _ ⟨rfl, rfl⟩)⟩
      refine ⟨_, rfl, r, _, 0, _, rfl, rfl, .inl (.inl h1), atI_nat (j := 0) rfl, _, rfl, _, _, rfl, rfl, hmn, ?_⟩
      refine ⟨_, rfl, r, _, 0, _, rfl, rfl, .inl (.inl h1), atI_nat (j := 0) rfl, _, rfl, _, _, rfl, rfl, wide_div hm0 hm1 (by decide) (by decide), ?_⟩
      refine ⟨_, rfl, r, _, 0, 0, rfl, rfl, h1, rfl, ?_⟩
      refine ⟨_, rfl, ?_⟩
      have f1 := fm (a := a) hm0
      exact q _ _ f1.1 f1.2 ⟨a / m, x, t, upd_same, Int.ediv_nonneg h2 (by omega), h3, h4, h5, by omega⟩ Kd.put
    · obtain ⟨rfl, rfl⟩ := hF
      refine ⟨_, rfl, r, _, 2, _, rfl, rfl, .inl (.inl h1), atI_nat (j := 2) rfl, _, _, rfl, rfl, ?_⟩
      refine ⟨_, rfl, r, _, 2, 2, rfl, rfl, h1, rfl, ?_⟩
      have h7 : upd H1 r (.lst ([V.int a, .int x, .int t].set 2 (.int (t + 1)))) r = some (.lst [.int a, .int x, .int (t + 1)]) := upd_same
      have k7 : Kd r H1 (upd H1 r (.lst ([V.int a, .int x, .int t].set 2 (.int (t + 1))))) := Kd.put
      show tSeq _ _ _ _ (upd H1 r (.lst ([V.int a, .int x, .int t].set 2 (.int (t + 1)))))
      generalize upd H1 r (.lst ([V.int a, .int x, .int t].set 2 (.int (t + 1)))) = H2 at h7 k7
      refine ⟨_, rfl, r, _, 1, _, rfl, rfl, .inl (.inl h7), atI_nat (j := 1) rfl, _, rfl, r, _, 2, _, rfl, rfl, .inl (.inl h7), atI_nat (j := 2) rfl, _, _, rfl, rfl, .inl ⟨by decide, by decide⟩, _, _, rfl, rfl, _, _, rfl, rfl, pow_sm (by omega) (Int.lt_trans (show x + 15496739 * (t + 1) < 2 ^ 64 by omega) (by decide +kernel)) (by decide) (by decide), _, _, rfl, rfl, n_m1, ?_⟩
      have f1 := fm (a := (x + 15496739 * (t + 1)) ^ Int.toNat 3) (show (0 : Int) < 162259276829213363391578010288127 by decide)
      show gName 3 (V.int (((x + 15496739 * (t + 1)) ^ Int.toNat 3).fmod 162259276829213363391578010288127)) _ _ _
      generalize ((x + 15496739 * (t + 1)) ^ Int.toNat 3).fmod 162259276829213363391578010288127 = M at f1
      refine ⟨_, rfl, _, rfl, r, _, 2, _, rfl, rfl, .inl (.inl h7), atI_nat (j := 2) rfl, _, _, rfl, rfl, .inl ⟨by decide, by decide⟩, _, _, rfl, rfl, _, _, rfl, rfl, pow_sm (by omega) (Int.lt_trans (show M + 32455313 * (t + 1) < 2 ^ 128 by omega) (by decide +kernel)) (by decide) (by decide), _, _, rfl, rfl, n_m2, ?_⟩
      show gName 3 (V.int (((M + 32455313 * (t + 1)) ^ Int.toNat 5).fmod 170141183460469231731687303715884105727)) _ _ _
      generalize ((M + 32455313 * (t + 1)) ^ Int.toNat 5).fmod 170141183460469231731687303715884105727 = N
      refine ⟨_, rfl, _, _, rfl, rfl, ⟨by decide, by decide⟩, _, rfl, _, _, rfl, rfl, hmn, ?_⟩
      have f2 := fm (a := N / 1048576) hm0
      exact q _ _ f2.1 f2.2 ⟨a, x, t + 1, h7, h2, h3, h4, by omega, by omega⟩ k7
end
end Lw
namespace Lw
open PySem PySem.Spec L2 Lx
theorem scLUnits : FnScope ["told", "least", "added", "many", "height"] ["told", "least", "added"] (defScope sLUnits) := ⟨rfl, rfl, rfl, by decide +kernel, rfl, by decide +kernel, by decide +kernel⟩
theorem scPut : FnScope ["rows", "found", "many", "height"] ["rows"] (defScope sLPutTogether) := ⟨rfl, rfl, rfl, by decide +kernel, rfl, by decide +kernel, by decide +kernel⟩
theorem scFormed : FnScope ["told", "shape", "rows", "total", "many", "height"] ["told", "shape"] (defScope sLFormed) := ⟨rfl, rfl, rfl, by decide +kernel, rfl, by decide +kernel, by decide +kernel⟩
def spPut (K : PySem.W.Frag) : Sp := fun vs H Q _ => ∃ l gs, vs = [.ref l] ∧ GsAt K H l gs ∧ gs.length ≤ 1000 ∧ ∀ p H' xs, H p = none → Same H H' → H' p = some (.lst xs) → Prs K H' xs (Lx.merged gs) → Q (.ref p) H'
def spLUnits (K : PySem.W.Frag) : Sp := fun vs H Q _ => ∃ x l r b a n, vs = [x, .int b, .int a] ∧ RnAt K H x l r ∧ RnSm n r ∧ (Fm.keep b a).Ok n ∧ n ≤ 100000 ∧ ∀ H', Same H H' → Q (.int (units r (.keep b a))) H'
def spFormed (K : PySem.W.Frag) : Sp := fun vs H Q _ => ∃ x l r y f n, vs = [x, y] ∧ RnAt K H x l r ∧ FmAt K H y f ∧ RnOk n r ∧ f.Ok n ∧ 0 < n ∧ n ≤ 100000 ∧ ∀ v H', Same H H' → NewRn K H H' v (runAfter r f) → Q v H'
structure UnF (mg : Str → Option Value) : Prop where
  sum : mg "sum" = none
  max : mg "max" = none
structure MxF (mg : Str → Option Value) : Prop where
  max : mg "max" = none
theorem merged_take {gs : List (Int × Int)} {i : Nat} {x : Int × Int} (h : gs[i]? = some x) : Lx.merged (gs.take (i + 1)) = addTo (Lx.merged (gs.take i)) x := by
  unfold Lx.merged
  rw [List.take_succ, h, List.foldl_append]
  rfl
theorem moved_sm {n : Nat} {r : List (Int × Int) × Int} {f : Fm} (h : RnSm n r) (hf : f.Ok n) : GsSm (n + 1) (moved f r.1) ∧ (moved f r.1).length ≤ 1000 := by
  refine ⟨fun x hx => ?_, by unfold moved; rw [List.length_map]; exact h.2.2.2⟩
  obtain ⟨y, hy, rfl⟩ := List.mem_map.mp hx
  obtain ⟨y1, y2, y3, y4⟩ := h.1 y hy
  have := Fm.after_ok hf y2 y4
  exact ⟨y1, this.1, y3.mono (Nat.le_succ n), this.2⟩
theorem pd_nil (gs : List (Int × Int)) : PyData.eqv (.list (pd gs)) (.list []) = decide (gs = []) := by
  cases gs with
  | nil => rfl
  | cons g gs => rfl
section
variable {P : Program} {w : World} {K : PySem.W.Frag} {mg : Str → Option Value} {base : Heap}
theorem ok_put {f : Addr} {fd : FuncData} {k : Nat} (F : Fun K "_law_put_together" "_law_put_together" sLPutTogether f fd) : FnOk P w K mg base CX0 (k + 1) f fd ["rows"] (spPut K) := by
  refine F.ok scPut (fun vs H Q E h => ?_) (fun cdv A outer s H vs Q E hr h => ?_)
  · obtain ⟨l, gs, rfl, _⟩ := h
    rfl
  · obtain ⟨l, gs, rfl, ⟨xs, hL, hP⟩, hlen, q⟩ := h
    refine ⟨_, (pss_cons (ps_set (i := 1) scPut.nd rfl (.inl rfl) (pe_lst pa_nil))
      (pss_cons (ps_for PassesOwn.never rfl (pi_list (pv 0)) (pg_tup (by rfl) (pgs_cons (pg_name (i := 2) scPut.nd rfl (.inl rfl)) (pgs_cons (pg_name (i := 3) scPut.nd rfl (.inl rfl)) pgs_nil)))
          (pss_one (ps_if (PW.pt (pw_and (pt_cmpR (op_neD hr.units) (pv 1) (pe_lst pa_nil) (nomark _)) (pw_and1 (pt_cmpR op_eq (pe_ix ix_tup (pe_ix ix_list (pv 1) (pe_un un_neg pe_int) (fun _ _ => rfl)) pe_int (fun _ _ => rfl)) (pv 3) (nomark _)))))
              (pss_one (ps_asg (pe_tup (pa_cons (pe_op op_add (pe_ix ix_tup (pe_ix ix_list (pv 1) (pe_un un_neg pe_int) (fun _ _ => rfl)) pe_int (fun _ _ => rfl)) (pv 2)) (pa_cons (pv 3) pa_nil))) (pg_sub (pv 1) (pe_un un_neg pe_int) set_list)))
              (pss_one (ps_expr (pe_bm PySem.F.plainAttrs_list PySem.F.slot_list_append PySem.F.type_list_append mt_append (pv 1) (pa_cons (pe_tup (pa_cons (pv 2) (pa_cons (pv 3) pa_nil))) pa_nil)))))))
      (pss_one (ps_ret (pv 1))))), ?_⟩
    refine ⟨Nat.zero_le _, fun p np => ?_⟩
    refine ⟨_, rfl, l, rfl, ⟨_, (same_upd (o := .lst []) np).seq hL⟩, ?_⟩
    refine for_it (walk_list (xs := xs)) (fun i σ H' => Same H H' ∧ ∃ y2 y3 zs, σ = [some (.ref l), some (.ref p), y2, y3] ∧ H' p = some (.lst zs) ∧ Prs K H' zs (Lx.merged (gs.take i)) ∧ zs.length ≤ i)
      ⟨same_upd np, none, none, [], rfl, upd_same, .nil, Nat.le_refl _⟩ (fun i σ H' _ hQ => hQ.1.seq hL) ?_ ?_
    · rintro i u σ H1 H2 hi ⟨sm, y2, y3, zs, rfl, hp, hz, hzl⟩ ⟨rfl, hu⟩
      obtain ⟨x, hx, a, rfl, ha'⟩ := hP.get hu
      have ha : SqT K H2 a [.int x.1, .int x.2] := .inl (.inl (sm _ _ ha'))
      have htk := merged_take hx
      have hxl := hP.len
      have app : ∀ H3 t, Same H2 H3 → H3 t = none → addTo (Lx.merged (gs.take i)) x = Lx.merged (gs.take i) ++ [x] →
          Same H (upd (upd H3 t (.tup [.int x.1, .int x.2])) p (.lst (zs ++ [.ref t]))) ∧ (upd (upd H3 t (.tup [.int x.1, .int x.2])) p (.lst (zs ++ [.ref t]))) p = some (.lst (zs ++ [.ref t])) ∧
          Prs K (upd (upd H3 t (.tup [.int x.1, .int x.2])) p (.lst (zs ++ [.ref t]))) (zs ++ [.ref t]) (Lx.merged (gs.take (i + 1))) ∧ (zs ++ [V.ref t]).length ≤ i + 1 := fun H3 t s3 nt e => by
        have s1 := same_upd (o := .tup [.int x.1, .int x.2]) nt
        refine ⟨Same.own ((sm.trans s3).trans s1) np, upd_same, ?_, by rw [List.length_append]; exact Nat.add_le_add_right hzl 1⟩
        rw [htk, e]
        exact Prs.lstUpd (s1 _ _ (s3 _ _ hp)) (((hz.same s3).same s1).append (.cons ⟨t, rfl, upd_same⟩ .nil))
      refine ⟨a, _, rfl, ha, rfl, _, _, rfl, _, _, rfl, rfl, ?_⟩
      refine ⟨_, rfl, Nat.zero_le _, fun e0 ne0 => ?_⟩
      have se := same_upd (o := .lst []) ne0
      refine ⟨.list (pd (Lx.merged (gs.take i))), .list [], (Dq.lst (se _ _ hp) (Prs.dq (hz.same se))).dp, (Dq.lst upd_same .nil).dp, pd_shaped _, by decide, _, rfl, ?_⟩
      rw [pd_nil]
      rcases snoc_or (Lx.merged (gs.take i)) with e1 | ⟨as, y, e1⟩
      · rw [decide_eq_true e1]
        have hz0 : zs = [] := by
          have := hz.len
          rw [e1] at this
          exact List.eq_nil_of_length_eq_zero this
        subst hz0
        refine iteF (iteF ⟨_, rfl, .inl ⟨rfl, _, .inl (.inl (se _ _ hp))⟩, _, rfl, _, rfl, by show 2 ≤ sizeLine; decide, fun t nt => ?_⟩)
        refine ⟨p, [], .ref t, rfl, rfl, same_upd nt _ _ (se _ _ hp), by rw [sizeLine_eq]; decide, ?_⟩
        obtain ⟨r1, r2, r3, r4⟩ := app _ t se nt (by rw [e1]; rfl)
        exact ⟨r1, _, _, _, rfl, r2, r3, r4⟩
      · rw [decide_eq_false (by rw [e1]; simp)]
        rw [e1] at hz
        obtain ⟨ws, v, rfl, hw, a2, rfl, ha2'⟩ := Prs.back hz
        have hpe := se _ _ hp
        have ha2 : SqT K (upd H2 e0 (.lst [])) a2 [.int y.1, .int y.2] := .inl (.inl (se _ _ ha2'))
        refine iteT ⟨_, rfl, 1, rfl, p, _, -1, _, rfl, rfl, .inl (.inl hpe), atI_last ws (.ref a2), a2, _, 1, _, rfl, rfl, ha2, atI_nat (j := 1) rfl, _, rfl, rfl, _, rfl, ?_⟩
        by_cases ej : y.2 = x.2
        · rw [decide_eq_true (by rw [ej])]
          refine iteT ?_
          refine ⟨_, rfl, 1, rfl, p, _, -1, _, rfl, rfl, .inl (.inl hpe), atI_last ws (.ref a2), a2, _, 0, _, rfl, rfl, ha2, atI_nat (j := 0) rfl, _, rfl, _, _, rfl, rfl, _, rfl, by show 2 ≤ sizeLine; decide, fun t nt => ?_⟩
          have s1 := same_upd (o := .tup [.int (y.1 + x.1), .int x.2]) nt
          refine ⟨_, rfl, 1, rfl, p, _, -1, _, rfl, rfl, s1 _ _ hpe, ixN_last ws (.ref a2), ?_⟩
          have eset : (ws ++ [V.ref a2]).set ws.length (.ref t) = ws ++ [V.ref t] := by simp
          rw [eset]
          refine ⟨Same.own ((sm.trans se).trans s1) np, _, _, ws ++ [.ref t], rfl, upd_same, ?_, ?_⟩
          · rw [htk, e1, addTo_snoc, if_pos ej]
            exact Prs.lstUpd (s1 _ _ hpe) (((hw.same se).same s1).append (.cons ⟨t, rfl, upd_same⟩ .nil))
          · simp only [List.length_append, List.length_cons, List.length_nil] at hzl ⊢
            omega
        · rw [decide_eq_false (fun z => ej (V.int.inj z))]
          refine iteF ⟨_, rfl, .inl ⟨rfl, _, .inl (.inl hpe)⟩, _, rfl, _, rfl, by show 2 ≤ sizeLine; decide, fun t nt => ?_⟩
          refine ⟨p, _, .ref t, rfl, rfl, same_upd nt _ _ hpe, by rw [sizeLine_eq]; simp only [List.length_append, List.length_cons, List.length_nil] at hzl ⊢; have := hP.len; omega, ?_⟩
          obtain ⟨r1, r2, r3, r4⟩ := app _ t se nt (by rw [e1, addTo_snoc, if_neg ej])
          exact ⟨r1, _, _, _, rfl, r2, r3, r4⟩
    · rintro σ H1 ⟨sm, y2, y3, zs, rfl, hp, hz, hzl⟩
      rw [List.take_of_length_le (by rw [← hP.len]; exact Nat.le_refl _)] at hz
      exact ⟨_, rfl, q p H1 zs np sm hp hz⟩
theorem ok_lunits {f : Addr} {fd : FuncData} {k : Nat} (F : Fun K "_law_units" "_law_units" sLUnits f fd) (Z : UnF mg) : FnOk P w K mg base CX0 (k + 1) f fd ["told", "least", "added"] (spLUnits K) := by
  refine F.ok scLUnits (fun vs H Q E h => ?_) (fun cdv A outer s H vs Q E hr h => ?_)
  · obtain ⟨x, l, r, b, a, n, rfl, _⟩ := h
    rfl
  · obtain ⟨_, l, r, b, a, n, rfl, ⟨p, rfl, hT, xs, hL, hP⟩, hs, hf, hn, q⟩ := h
    refine ⟨_, (pss_one (ps_ret (pe_op op_add (pe_callB (cr_sum rfl) (by rfl) Z.sum (by decide +kernel) (pa_cons (pe_lc (own := [("many", 3), ("height", 4)]) (g := (gTup K 2 (gCons (gName 3) (gCons (gName 4) gNil)))) (tt := tYes) rfl scLUnits.nd (pi_list (pe_ix ix_tup (pv 0) pe_int (fun _ _ => rfl))) (blkOk_by (own := [("many", 3), ("height", 4)]) (N := ["told", "least", "added", "many", "height"]) (sc := defScope sLUnits) (by decide +kernel)) (fun _ _ _ _ _ => (pg_tup (by rfl) (pgs_cons (pg_name (i := 3) scLUnits.nd rfl (.inl rfl)) (pgs_cons (pg_name (i := 4) scLUnits.nd rfl (.inl rfl)) pgs_nil)))) (fun _ _ _ _ _ => pts_nil) (fun _ _ _ _ _ => (pe_op op_mulW (pv 3) (pe_op op_add (pe_op op_add (pe_callB (call_max2 rfl) (by rfl) Z.max (by decide +kernel) (pa_cons pe_int (pa_cons (pe_op op_sub (pv 4) (pv 1)) pa_nil))) (pv 2)) pe_int)))) pa_nil)) (pe_ix ix_tup (pv 0) pe_int (fun _ _ => rfl))))), ?_⟩
    refine ⟨_, rfl, p, _, 0, _, rfl, rfl, hT, atI_nat (j := 0) rfl, l, rfl, ⟨_, hL⟩, fun D nD => ?_⟩
    refine lc_it (walk_list (xs := xs)) (fun i H' => Same H H' ∧ H' D = some (.lst (((r.1.take i).map fun x => x.1 * ((Fm.keep b a).after x.2 + 1)).map V.int))) ⟨same_upd nD, upd_same⟩ (fun i H' _ hQ => hQ.1.seq hL) ?_ ?_
    · rintro i u H1 H2 hi ⟨sm, hD⟩ ⟨rfl, hu⟩
      obtain ⟨x, hx, ap, rfl, ha'⟩ := hP.get hu
      obtain ⟨x1, x2, x3, x4⟩ := hs.1 x (List.mem_of_getElem? hx)
      have hb := Fm.after_ok (hf.mono (Nat.le_succ n)) x2 (x4.mono (Nat.le_succ n))
      have hb2 : Sm (n + 3) ((Fm.keep b a).after x.2 + 1) := hb.2.add (Nat.lt_of_lt_of_le (by decide : (1 : Int).natAbs < 2 ^ 1) (Nat.pow_le_pow_right (by decide) (by omega)))
      refine ⟨ap, _, rfl, .inl (.inl (sm _ _ ha')), rfl, _, _, rfl, _, _, rfl, rfl, rfl, ?_⟩
      refine ⟨_, rfl, _, rfl, _, rfl, _, _, rfl, rfl, _, _, rfl, _, rfl, _, _, rfl, rfl, _, _, rfl, rfl, _, _, rfl, rfl, wide_mul (x3.mono (Nat.le_succ n)) hb2 (by omega) (by omega) (by omega), ?_⟩
      refine ⟨_, hD, ?_, Same.own sm nD, ?_⟩
      · have := hs.2.2.2
        rw [List.length_map, List.length_map, List.length_take, sizeLine_eq]
        omega
      · rw [upd_same, List.take_succ, hx, List.map_append, List.map_append]
        rfl
    · rintro H1 ⟨sm, hD⟩
      rw [List.take_of_length_le (by rw [← hP.len]; exact Nat.le_refl _)] at hD
      refine ⟨D, _, rfl, .inl (.inl hD), _, rfl, p, _, 1, _, rfl, rfl, sameT sm hT, atI_nat (j := 1) rfl, _, _, rfl, rfl, ?_⟩
      rw [sum_mapV]
      exact q _ sm
theorem ok_formed {f aR aN : Addr} {fd dR dN : FuncData} {k : Nat} (F : Fun K "_law_formed" "_law_formed" sLFormed f fd) (Z : MxF mg)
    (cR : Cl P w K mg base k "_law_put_together" ["rows"] (spPut K) aR dR)
    (cN : Cl P w K mg base k "_law_units" ["told", "least", "added"] (spLUnits K) aN dN) : FnOk P w K mg base CX0 (k + 1) f fd ["told", "shape"] (spFormed K) := by
  refine F.ok scFormed (fun vs H Q E h => ?_) (fun cdv A outer s H vs Q E hr h => ?_)
  · obtain ⟨x, l, r, y, f, n, rfl, _⟩ := h
    rfl
  · obtain ⟨_, l, r, _, f, n, rfl, ⟨p, rfl, hT, xs, hL, hP⟩, ⟨yp, rfl, hY⟩, ho, hf, hn0, hn, q⟩ := h
    have hs := RnOk.sm ho
    refine ⟨_, (pss_cons (ps_if (pt_cmpR op_eq (pe_ix ix_tup (pv 1) pe_int (fun _ _ => rfl)) pe_str (nomark _))
          (pss_cons (ps_setLc (i := 2) (own := [("many", 4), ("height", 5)]) (g := (gTup K 2 (gCons (gName 4) (gCons (gName 5) gNil)))) (tt := tYes) rfl scFormed.nd rfl rfl (sw_true rfl rfl rfl (by decide +kernel)) (pi_list (pe_ix ix_tup (pv 0) pe_int (fun _ _ => rfl))) (blkOk_by (own := [("many", 4), ("height", 5)]) (N := ["told", "shape", "rows", "total", "many", "height"]) (sc := defScope sLFormed) (by decide +kernel)) (fun _ _ _ _ _ => (pg_tup (by rfl) (pgs_cons (pg_name (i := 4) scFormed.nd rfl (.inl rfl)) (pgs_cons (pg_name (i := 5) scFormed.nd rfl (.inl rfl)) pgs_nil)))) (fun _ _ _ _ _ => pts_nil) (fun _ _ _ _ _ => (pe_tup (pa_cons (pv 4) (pa_cons (pe_op op_add (pe_callB (call_max2 rfl) (by rfl) Z.max (by decide +kernel) (pa_cons pe_int (pa_cons (pe_op op_sub (pv 5) (pe_ix (ix_t (K := K) rfl) (pv 1) pe_int (fun _ _ => rfl))) pa_nil))) (pe_ix (ix_t (K := K) rfl) (pv 1) pe_int (fun _ _ => rfl))) pa_nil)))))
          (pss_one (ps_ret (pe_tup (pa_cons (pe_call cR.G hr (by rfl) cR.g cR.kp cR.b .nil pass0 (pa_cons (pv 2) pa_nil)) (pa_cons (pe_ix ix_tup (pv 0) pe_int (fun _ _ => rfl)) pa_nil)))))) pss_nil)
      (pss_cons (ps_set (i := 3) scFormed.nd rfl (.inl rfl) (pe_op op_mulW (pe_ix ix_tup (pv 1) pe_int (fun _ _ => rfl)) (pe_call cN.G hr (by rfl) cN.g cN.kp cN.b .nil pass0 (pa_cons (pv 0) (pa_cons (pe_ix ix_tup (pv 1) pe_int (fun _ _ => rfl)) (pa_cons (pe_ix ix_tup (pv 1) pe_int (fun _ _ => rfl)) pa_nil))))))
      (pss_cons (ps_if (pt_cmpR op_eq (pe_ix ix_tup (pv 1) pe_int (fun _ _ => rfl)) pe_str (nomark _))
          (pss_one (ps_ret (pe_tup (pa_cons (pe_ifExp (pt_cmpR op_gt (pv 3) pe_int (nomark _)) (pe_lst (pa_cons (pe_tup (pa_cons (pv 3) (pa_cons (pe_ix ix_tup (pv 1) pe_int (fun _ _ => rfl)) pa_nil))) pa_nil)) (pe_lst pa_nil)) (pa_cons pe_int pa_nil))))) pss_nil)
      (pss_one (ps_ret (pe_tup (pa_cons (pe_lst pa_nil) (pa_cons (pv 3) pa_nil)))))))), ?_⟩
    refine ⟨_, rfl, yp, _, 0, _, rfl, rfl, hY, atI_nat (j := 0) f.vs0, rfl, _, rfl, ?_⟩
    have hu := units_ok hs hf
    have hfk : (Fm.keep f.b f.a).Ok n := ⟨hf.b0.1, hf.a0.1, hf.b0.2, hf.a0.2⟩
    have huk : units r (.keep f.b f.a) = units r f := by cases f <;> rfl
    by_cases hk : Fm.isKeep f = true
    · have hnm : decide (V.str f.nm = V.str "keep") = true := by
        cases f with
        | keep b a => rfl
        | _ => cases hk
      rw [hnm]
      refine iteT ?_
      refine ⟨_, rfl, p, _, 0, _, rfl, rfl, hT, atI_nat (j := 0) rfl, l, rfl, ⟨_, hL⟩, fun D nD => ?_⟩
      refine lc_it (walk_list (xs := xs)) (fun i H' => Same H H' ∧ ∃ zs, H' D = some (.lst zs) ∧ Prs K H' zs (moved f (r.1.take i))) ⟨same_upd nD, [], upd_same, .nil⟩ (fun i H' _ hQ => hQ.1.seq hL) ?_ ?_
      · rintro i u H1 H2 hi ⟨sm, zs, hD, hz⟩ ⟨rfl, hu⟩
        obtain ⟨x, hx, ap, rfl, ha'⟩ := hP.get hu
        have hY2 := sameT sm hY
        refine ⟨ap, _, rfl, .inl (.inl (sm _ _ ha')), rfl, _, _, rfl, _, _, rfl, rfl, rfl, ?_⟩
        refine ⟨_, rfl, _, rfl, _, rfl, yp, _, 1, _, rfl, rfl, hY2, atI_nat (j := 1) f.vs1, _, _, rfl, rfl, _, _, rfl, _, rfl, yp, _, 2, _, rfl, rfl, hY2, atI_nat (j := 2) f.vs2, _, _, rfl, rfl, by show 2 ≤ sizeLine; decide, fun t nt => ?_⟩
        have s1 := same_upd (o := .tup [.int x.1, .int (f.after x.2)]) nt
        have hzl : zs.length ≤ 1000 := by
          have e1 := hz.len
          have e2 := hs.2.2.2
          unfold moved at e1
          rw [List.length_map, List.length_take] at e1
          omega
        refine ⟨zs, s1 _ _ hD, by rw [sizeLine_eq]; omega, Same.own (sm.trans s1) nD, _, upd_same, ?_⟩
        have e : moved f (r.1.take (i + 1)) = moved f (r.1.take i) ++ [(x.1, f.after x.2)] := by
          unfold moved
          rw [List.take_succ, hx, List.map_append]
          rfl
        rw [e]
        exact Prs.lstUpd (s1 _ _ hD) ((hz.same s1).append (.cons ⟨t, rfl, upd_same⟩ .nil))
      · rintro H1 ⟨sm, zs, hD, hz⟩
        rw [List.take_of_length_le (by rw [← hP.len]; exact Nat.le_refl _)] at hz
        refine ⟨_, rfl, D, _, rfl, ⟨zs, .inl (.inl hD), hz⟩, (moved_sm hs hf).2, fun p2 H2 ws np2 s2 hp2 hw => ?_⟩
        refine ⟨_, rfl, p, _, 1, _, rfl, rfl, sameT (sm.trans s2) hT, atI_nat (j := 1) rfl, by show 2 ≤ sizeLine; decide, fun t nt => ?_⟩
        have s3 := same_upd (o := .tup [.ref p2, .int r.2]) nt
        cases f with
        | keep b a => exact q _ _ ((sm.trans s2).trans s3) ⟨t, p2, ws, rfl, (sm.trans s2).free nt, sm.free np2, upd_same, s3 _ _ hp2, hw.same s3⟩
        | _ => cases hk
    · have hk' : Fm.isKeep f = false := by simpa using hk
      have hnm : decide (V.str f.nm = V.str "keep") = false := by
        cases f with
        | keep b a => cases hk'
        | _ => rfl
      rw [hnm]
      refine iteF ?_
      cases f with
      | keep b a => cases hk'
      | cr b a k' =>
        refine ⟨_, rfl, yp, _, 3, _, rfl, rfl, hY, atI_nat (j := 3) rfl, _, rfl, _, rfl, yp, _, 1, _, rfl, rfl, hY, atI_nat (j := 1) rfl, _, rfl, yp, _, 2, _, rfl, rfl, hY, atI_nat (j := 2) rfl, ?_⟩
        refine ⟨.ref p, l, r, b, a, n, rfl, ⟨p, rfl, hT, xs, hL, hP⟩, hs, hfk, hn, fun H1 sm => ?_⟩
        rw [show units r (.keep b a) = units r (.cr b a k') from rfl]
        refine ⟨_, _, rfl, rfl, wide_mul hf.2.2.2.2.2 hu.2 hn0 (by omega) (by omega), ?_⟩
        refine ⟨_, rfl, yp, _, 0, _, rfl, rfl, sameT sm hY, atI_nat (j := 0) rfl, rfl, _, rfl, iteF ?_⟩
        refine ⟨Nat.zero_le _, fun p2 np2 => ?_⟩
        have s3 := same_upd (o := .lst []) np2
        refine ⟨_, rfl, by show 2 ≤ sizeLine; decide, fun t nt => ?_⟩
        have s4 := same_upd (o := .tup [.ref p2, .int (k' * units r (.cr b a k'))]) nt
        exact q _ _ ((sm.trans s3).trans s4) ⟨t, p2, [], rfl, (sm.trans s3).free nt, sm.free np2, upd_same, s4 _ _ upd_same, .nil⟩
      | lf b a k' c =>
        refine ⟨_, rfl, yp, _, 3, _, rfl, rfl, hY, atI_nat (j := 3) rfl, _, rfl, _, rfl, yp, _, 1, _, rfl, rfl, hY, atI_nat (j := 1) rfl, _, rfl, yp, _, 2, _, rfl, rfl, hY, atI_nat (j := 2) rfl, ?_⟩
        refine ⟨.ref p, l, r, b, a, n, rfl, ⟨p, rfl, hT, xs, hL, hP⟩, hs, hfk, hn, fun H1 sm => ?_⟩
        rw [show units r (.keep b a) = units r (.lf b a k' c) from rfl]
        have hp := Int.mul_nonneg (Int.le_of_lt hf.2.2.1) hu.1
        refine ⟨_, _, rfl, rfl, wide_mul hf.2.2.2.2.2.2.1 hu.2 hn0 (by omega) (by omega), ?_⟩
        show gName 3 (V.int (k' * units r (.lf b a k' c))) _ _ _
        have e : runAfter r (.lf b a k' c) = (if k' * units r (.lf b a k' c) = 0 then (([] : List (Int × Int)), (0 : Int)) else ([(k' * units r (.lf b a k' c), c)], 0)) := rfl
        rw [e] at q
        generalize k' * units r (.lf b a k' c) = T at hp q
        refine ⟨_, rfl, yp, _, 0, _, rfl, rfl, sameT sm hY, atI_nat (j := 0) rfl, rfl, _, rfl, iteT ?_⟩
        refine ⟨_, rfl, _, _, rfl, rfl, _, rfl, ite2 (fun c0 => ?_) (fun c0 => ?_)⟩
        · have c0 := of_decide_eq_true c0
          rw [if_neg (by omega)] at q
          refine ⟨_, rfl, _, rfl, yp, _, 4, _, rfl, rfl, sameT sm hY, atI_nat (j := 4) rfl, by show 2 ≤ sizeLine; decide, fun g ng => ⟨by show 1 ≤ sizeLine; decide, fun l2 nl2 => ?_⟩⟩
          have s3 := same_upd (o := .tup [.int T, .int c]) ng
          have s4 := same_upd (o := .lst [.ref g]) nl2
          refine ⟨by show 2 ≤ sizeLine; decide, fun t nt => ?_⟩
          have s6 := same_upd (o := .tup [.ref l2, .int 0]) nt
          exact q _ _ (((sm.trans s3).trans s4).trans s6) ⟨t, l2, [.ref g], rfl, ((sm.trans s3).trans s4).free nt, (sm.trans s3).free nl2, upd_same, s6 _ _ upd_same, .cons ⟨g, rfl, s6 _ _ (s4 _ _ upd_same)⟩ .nil⟩
        · have c0 : ¬ T > 0 := fun z => c0 (decide_eq_true z)
          rw [if_pos (by omega)] at q
          refine ⟨Nat.zero_le _, fun l2 nl2 => ⟨by show 2 ≤ sizeLine; decide, fun t nt => ?_⟩⟩
          have s4 := same_upd (o := .lst []) nl2
          have s6 := same_upd (o := .tup [.ref l2, .int 0]) nt
          exact q _ _ ((sm.trans s4).trans s6) ⟨t, l2, [], rfl, (sm.trans s4).free nt, sm.free nl2, upd_same, s6 _ _ upd_same, .nil⟩
end
end Lw
namespace Lw
open PySem PySem.Spec L2 Lx
theorem scShape : FnScope ["pool", "far", "factor", "least", "added", "times", "way"] ["pool", "far", "factor"] (defScope sLShape) := ⟨rfl, rfl, rfl, by decide +kernel, rfl, by decide +kernel, by decide +kernel⟩
theorem scFar : FnScope ["pool", "rows", "turn", "many"] ["pool"] (defScope sLFarRun) := ⟨rfl, rfl, rfl, by decide +kernel, rfl, by decide +kernel, by decide +kernel⟩
theorem scChanged : FnScope ["pool", "told", "rows", "rest", "at", "many", "height"] ["pool", "told"] (defScope sLChanged) := ⟨rfl, rfl, rfl, by decide +kernel, rfl, by decide +kernel, by decide +kernel⟩
abbrev big : Int := 1000000000000000000000000000000
theorem big_sm {x : Int} (h0 : 0 ≤ x) (h1 : x ≤ big) : Sm 100 x := by
  have : (2 : Nat) ^ 100 = 1267650600228229401496703205376 := by decide +kernel
  have h2 : x ≤ 1000000000000000000000000000000 := h1
  unfold Sm
  omega
theorem big_40 {x : Int} (h0 : 0 < x) (h1 : x ≤ big) : x.natAbs < 2 ^ 4000 := Nat.lt_of_lt_of_le (big_sm (Int.le_of_lt h0) h1) (Nat.pow_le_pow_right (by decide) (by decide))
/-- draw(pool, [x, ..][draw(pool, many)]) -/
theorem pk {K : PySem.W.Frag} {σ : St} {H : Hp} {Q : VK} {r : Addr} {n : Nat} {tL : TA} {m : Int} (xs : List Int) (hm : m = xs.length) (hx : xs ≠ []) (hl : xs.length ≤ 10) (h0 : σ[0]? = some (some (.ref r))) (hL : ∀ H (Q : List V → Hp → Prop), Q (xs.map V.int) H → tL σ H Q) (hb : ∀ x ∈ xs, 0 < x ∧ x ≤ big)
    (hS : PoolAt H r n) (hn : n + 2 < 1000000000) (q : ∀ v H' x, x ∈ xs → 0 ≤ v → v < x → PoolAt H' r (n + 2) → Kd r H H' → Q (.int v) H') : tCall spDraw [] E0 (tCons (tVar 0) (tCons (tOp (rIxL K) (tLst tL) (tCall spDraw [] E0 (tCons (tVar 0) (tCons (tC (.int m)) tNil)))) tNil)) σ H Q := by
  have hpos : 0 < xs.length := by
    cases xs with
    | nil => exact absurd rfl hx
    | cons x xs => exact Nat.succ_pos _
  refine ⟨_, h0, hL _ _ ⟨by rw [List.length_map, sizeLine_eq]; omega, fun T nT => ?_⟩⟩
  have s1 := same_upd (o := .lst (xs.map V.int)) nT
  refine ⟨_, h0, r, n, m, rfl, hS.same s1, by omega, by omega, Nat.lt_of_lt_of_le (show m.natAbs < 2 ^ 10 by omega) (Nat.pow_le_pow_right (by decide) (by decide)), fun c H1 c0 c1 hS1 k1 => ?_⟩
  have hT := hS.ne nT
  have hT1 : H1 T = some (.lst (xs.map V.int)) := k1 _ _ hT upd_same
  obtain ⟨c, rfl⟩ := Int.eq_ofNat_of_zero_le c0
  have hc : c < xs.length := by omega
  have hc2 : c < (xs.map V.int).length := by rw [List.length_map]; exact hc
  have hat : atI (xs.map V.int) (c : Int) = some (.int xs[c]) := by
    rw [atI_nat (List.getElem?_eq_getElem hc2), List.getElem_map]
  obtain ⟨x0, x1⟩ := hb xs[c] (List.getElem_mem hc)
  exact ⟨T, _, c, _, rfl, rfl, .inl (.inl hT1), hat, r, n + 1, xs[c], rfl, hS1, by omega, x0, big_40 x0 x1, fun v H2 v0 v1 hS2 k2 => q v H2 xs[c] (List.getElem_mem hc) v0 v1 hS2 ((Kd.of s1).trans (k1.trans k2))⟩
def spShape : Sp := fun vs H Q _ => ∃ (r : Addr) (n : Nat) (far fac : Int), vs = [.ref r, .int far, .int fac] ∧ PoolAt H r n ∧ n < 900000000 ∧ 0 < far ∧ far < big ∧ 0 < fac ∧ fac ≤ big ∧
  ∀ (p : Addr) (f : Fm) (H' : Hp), H p = none → H' p = some (.tup f.vs) → f.Ok 101 → PoolAt H' r (n + 9) → Kd r H H' → Q (.ref p) H'
def spFar (K : PySem.W.Frag) : Sp := fun vs H Q _ => ∃ (r : Addr) (n : Nat), vs = [.ref r] ∧ PoolAt H r n ∧ n < 900000000 ∧ ∀ v g H', NewRn K H H' v g → RnOk 111 g → g.1.length ≤ 8 → PoolAt H' r (n + 40) → Kd r H H' → Q v H'
structure CgF (mg : Str → Option Value) : Prop where
  list : mg "list" = none
  len : mg "len" = none
  max : mg "max" = none
def spChanged (K : PySem.W.Frag) : Sp := fun vs H Q _ => ∃ (r : Addr) (n : Nat) (x : V) (l : Addr) (g : List (Int × Int) × Int) (m : Nat), vs = [.ref r, x] ∧ PoolAt H r n ∧ n < 900000000 ∧ RnS K H x l g ∧ l ≠ r ∧ RnOk m g ∧ 0 < m ∧ g.1.length ≤ 100 ∧
  ∀ v g' H', NewRn K H H' v g' → RnOk (m + 12) g' → g'.1.length ≤ g.1.length → PoolAt H' r (n + 9) → Kd r H H' → Q v H'
theorem set_sm {n : Nat} {gs : List (Int × Int)} {i : Nat} {y : Int × Int} (h : GsSm n gs) (hy : 0 ≤ y.1 ∧ 0 ≤ y.2 ∧ Sm n y.1 ∧ Sm n y.2) : GsSm n (gs.set i y) := fun x hx => by
  rcases List.mem_or_eq_of_mem_set hx with h1 | h1
  · exact h x h1
  · rw [h1]; exact hy
theorem Prs.set {K : PySem.W.Frag} {H : Hp} : ∀ {vs : List V} {gs : List (Int × Int)}, Prs K H vs gs → ∀ {v : V} {y : Int × Int} (i : Nat), PrAt H v y → Prs K H (vs.set i v) (gs.set i y)
  | _, _, .nil, _, _, _, _ => .nil
  | _, _, .cons _ t, _, _, 0, h => .cons h t
  | _, _, .cons a t, _, _, i + 1, h => .cons a (Prs.set t i h)
structure FaF (mg : Str → Option Value) : Prop where
  range : mg "range" = none
section
variable {P : Program} {w : World} {K : PySem.W.Frag} {mg : Str → Option Value} {base : Heap}
theorem ok_shape {f aD : Addr} {fd dD : FuncData} {k : Nat} (F : Fun K "_law_shape" "_law_shape" sLShape f fd)
    (cD : Cl P w K mg base k "_law_draw" ["pool", "many"] spDraw aD dD) : FnOk P w K mg base CX0 (k + 1) f fd ["pool", "far", "factor"] spShape := by
  refine F.ok scShape (fun vs H Q E h => ?_) (fun cdv A outer s H vs Q E hr h => ?_)
  · obtain ⟨r, n, far, fac, rfl, _⟩ := h
    rfl
  · obtain ⟨r, n, far, fac, rfl, hS, hn, f0, f1, a0, a1, q⟩ := h
    refine ⟨_, (pss_cons (ps_par (i := 3) (j := 4) rfl scShape.nd rfl rfl (by decide) rfl rfl (pa_cons (pe_call cD.G hr (by rfl) cD.g cD.kp cD.b .nil pass0 (pa_cons (pv 0) (pa_cons (pe_ix ix_list (pe_lst (pa_cons pe_int (pa_cons (pe_op op_add (pv 1) pe_int) pa_nil))) (pe_call cD.G hr (by rfl) cD.g cD.kp cD.b .nil pass0 (pa_cons (pv 0) (pa_cons pe_int pa_nil))) (fun _ _ => rfl)) pa_nil))) (pa_cons (pe_call cD.G hr (by rfl) cD.g cD.kp cD.b .nil pass0 (pa_cons (pv 0) (pa_cons (pe_ix ix_list (pe_lst (pa_cons pe_int (pa_cons (pe_op op_add (pv 1) pe_int) pa_nil))) (pe_call cD.G hr (by rfl) cD.g cD.kp cD.b .nil pass0 (pa_cons (pv 0) (pa_cons pe_int pa_nil))) (fun _ _ => rfl)) pa_nil))) pa_nil)) rfl)
      (pss_cons (ps_set (i := 5) scShape.nd rfl (.inl rfl) (pe_op op_add pe_int (pe_call cD.G hr (by rfl) cD.g cD.kp cD.b .nil pass0 (pa_cons (pv 0) (pa_cons (pe_ix ix_list (pe_lst (pa_cons pe_int (pa_cons (pv 2) pa_nil))) (pe_call cD.G hr (by rfl) cD.g cD.kp cD.b .nil pass0 (pa_cons (pv 0) (pa_cons pe_int pa_nil))) (fun _ _ => rfl)) pa_nil)))))
      (pss_cons (ps_set (i := 6) scShape.nd rfl (.inl rfl) (pe_call cD.G hr (by rfl) cD.g cD.kp cD.b .nil pass0 (pa_cons (pv 0) (pa_cons pe_int pa_nil))))
      (pss_cons (ps_if (pt_cmpR op_eq (pv 6) pe_int (nomark _))
          (pss_one (ps_ret (pe_tup (pa_cons pe_str (pa_cons (pv 3) (pa_cons (pv 4) pa_nil)))))) pss_nil)
      (pss_cons (ps_if (pt_cmpR op_eq (pv 6) pe_int (nomark _))
          (pss_one (ps_ret (pe_tup (pa_cons pe_str (pa_cons (pv 3) (pa_cons (pv 4) (pa_cons (pv 5) (pa_cons (pe_call cD.G hr (by rfl) cD.g cD.kp cD.b .nil pass0 (pa_cons (pv 0) (pa_cons (pe_ix ix_list (pe_lst (pa_cons pe_int (pa_cons (pe_op op_add (pv 1) pe_int) pa_nil))) (pe_call cD.G hr (by rfl) cD.g cD.kp cD.b .nil pass0 (pa_cons (pv 0) (pa_cons pe_int pa_nil))) (fun _ _ => rfl)) pa_nil))) pa_nil)))))))) pss_nil)
      (pss_one (ps_ret (pe_tup (pa_cons pe_str (pa_cons (pv 3) (pa_cons (pv 4) (pa_cons (pv 5) pa_nil)))))))))))), ?_⟩
    have hL : ∀ {σ : St}, σ[1]? = some (some (.int far)) → ∀ H (Q : List V → Hp → Prop), Q ([2, far + 1].map V.int) H → tCons (tC (.int 2)) (tCons (tOp (rI0 fun i j => V.int (i + j)) (tVar 1) (tC (.int 1))) tNil) σ H Q := fun h H Q q => ⟨_, h, _, _, rfl, rfl, q⟩
    have hb : ∀ x ∈ [2, far + 1], 0 < x ∧ x ≤ big := fun x hx => by
      simp only [List.mem_cons, List.not_mem_nil, or_false] at hx
      rcases hx with rfl | rfl
      · exact ⟨by decide, by decide⟩
      · exact ⟨by omega, by omega⟩
    have hbl : ∀ {v x : Int}, x ∈ [2, far + 1] → 0 ≤ v → v < x → 0 ≤ v ∧ v ≤ big := fun hx v0 v1 => ⟨v0, by have := (hb _ hx).2; omega⟩
    refine pk [2, far + 1] rfl (by simp) (by show 2 ≤ 10; decide) rfl (hL rfl) hb hS (by omega) fun b H1 x1 hx1 b0 b1 hS1 k1 => ?_
    refine pk [2, far + 1] rfl (by simp) (by show 2 ≤ 10; decide) rfl (hL rfl) hb hS1 (by omega) fun a H2 x2 hx2 c0 c1 hS2 k2 => ?_
    refine ⟨_, _, rfl, ?_⟩
    have hb3 : ∀ x ∈ [1, fac], 0 < x ∧ x ≤ big := fun x hx => by
      simp only [List.mem_cons, List.not_mem_nil, or_false] at hx
      rcases hx with rfl | rfl
      · exact ⟨by decide, by decide⟩
      · exact ⟨a0, a1⟩
    dsimp only [gName, tNext, tSeq]
    refine pk [1, fac] rfl (by simp) (by show 2 ≤ 10; decide) rfl (fun H Q q => ⟨_, rfl, q⟩) hb3 hS2 (by omega) fun t H3 x3 hx3 t0 t1 hS3 k3 => ⟨_, _, rfl, rfl, ?_⟩
    refine ⟨_, rfl, r, _, 3, rfl, hS3, by omega, by decide, by decide, fun w H4 w0 w1 hS4 k4 => ?_⟩
    have kk := ((k1.trans k2).trans k3).trans k4
    have sb := (big_sm b0 (hbl hx1 b0 b1).2).mono (by decide : 100 ≤ 101)
    have sa := (big_sm c0 (hbl hx2 c0 c1).2).mono (by decide : 100 ≤ 101)
    have st : Sm 101 (1 + t) := by
      have := (hb3 _ hx3).2
      have q1 := (big_sm t0 (by omega)).add (Nat.lt_of_lt_of_le (by decide : (1 : Int).natAbs < 2 ^ 1) (Nat.pow_le_pow_right (by decide) (by decide)) : Sm 100 1)
      rw [Int.add_comm] at q1
      exact q1
    dsimp only [gName, tNext, tSeq]
    refine ⟨_, rfl, rfl, _, rfl, ite2 (fun c => ?_) (fun c => ?_)⟩
    · refine ⟨_, rfl, _, rfl, by show 3 ≤ sizeLine; decide, fun p np => ?_⟩
      have s5 := same_upd (o := .tup (Fm.keep b a).vs) np
      exact q p (.keep b a) _ (kk.freeP hS4 np) upd_same ⟨b0, c0, sb, sa⟩ ((hS4.same s5).mono (by omega)) (kk.trans (Kd.of s5))
    · refine ⟨_, rfl, rfl, _, rfl, ite2 (fun c => ?_) (fun c => ?_)⟩
      · refine ⟨_, rfl, _, rfl, _, rfl, ?_⟩
        refine pk [2, far + 1] rfl (by simp) (by show 2 ≤ 10; decide) rfl (hL rfl) hb hS4 (by omega) fun j H5 x5 hx5 j0 j1 hS5 k5 => ?_
        refine ⟨by show 5 ≤ sizeLine; decide, fun p np => ?_⟩
        have s5 := same_upd (o := .tup (Fm.lf b a (1 + t) j).vs) np
        exact q p (.lf b a (1 + t) j) _ ((kk.trans k5).freeP hS5 np) upd_same ⟨b0, c0, by omega, j0, sb, sa, st, (big_sm j0 (hbl hx5 j0 j1).2).mono (by decide)⟩ ((hS5.same s5).mono (by omega)) ((kk.trans k5).trans (Kd.of s5))
      · refine ⟨_, rfl, _, rfl, _, rfl, by show 4 ≤ sizeLine; decide, fun p np => ?_⟩
        have s5 := same_upd (o := .tup (Fm.cr b a (1 + t)).vs) np
        exact q p (.cr b a (1 + t)) _ (kk.freeP hS4 np) upd_same ⟨b0, c0, by omega, sb, sa, st⟩ ((hS4.same s5).mono (by omega)) (kk.trans (Kd.of s5))
theorem ok_far {f aD aR : Addr} {fd dD dR : FuncData} {k : Nat} (F : Fun K "_law_far_run" "_law_far_run" sLFarRun f fd) (Z : FaF mg)
    (cD : Cl P w K mg base k "_law_draw" ["pool", "many"] spDraw aD dD)
    (cR : Cl P w K mg base k "_law_put_together" ["rows"] (spPut K) aR dR) : FnOk P w K mg base CX0 (k + 1) f fd ["pool"] (spFar K) := by
  refine F.ok scFar (fun vs H Q E h => ?_) (fun cdv A outer s H vs Q E hr h => ?_)
  · obtain ⟨r, n, rfl, _⟩ := h
    rfl
  · obtain ⟨r, n, rfl, hS, hn, q⟩ := h
    refine ⟨_, (pss_cons (ps_set (i := 1) scFar.nd rfl (.inl rfl) (pe_lst pa_nil))
      (pss_cons (ps_for PassesOwn.never rfl (pi_range1 rfl Z.range (pa_cons (pe_call cD.G hr (by rfl) cD.g cD.kp cD.b .nil pass0 (pa_cons (pv 0) (pa_cons pe_int pa_nil))) pa_nil)) (pg_name (i := 2) scFar.nd rfl (.inl rfl))
          (pss_cons (ps_set (i := 3) scFar.nd rfl (.inl rfl) (pe_op op_add pe_int (pe_call cD.G hr (by rfl) cD.g cD.kp cD.b .nil pass0 (pa_cons (pv 0) (pa_cons (pe_ix ix_list (pe_lst (pa_cons pe_int (pa_cons (pe_op op_pow pe_int pe_int) pa_nil))) (pe_call cD.G hr (by rfl) cD.g cD.kp cD.b .nil pass0 (pa_cons (pv 0) (pa_cons pe_int pa_nil))) (fun _ _ => rfl)) pa_nil)))))
          (pss_one (ps_expr (pe_bm PySem.F.plainAttrs_list PySem.F.slot_list_append PySem.F.type_list_append mt_append (pv 1) (pa_cons (pe_tup (pa_cons (pv 3) (pa_cons (pe_call cD.G hr (by rfl) cD.g cD.kp cD.b .nil pass0 (pa_cons (pv 0) (pa_cons (pe_ix ix_list (pe_lst (pa_cons pe_int (pa_cons pe_int (pa_cons (pe_op op_pow pe_int pe_int) pa_nil)))) (pe_call cD.G hr (by rfl) cD.g cD.kp cD.b .nil pass0 (pa_cons (pv 0) (pa_cons pe_int pa_nil))) (fun _ _ => rfl)) pa_nil))) pa_nil))) pa_nil))))))
      (pss_one (ps_ret (pe_tup (pa_cons (pe_call cR.G hr (by rfl) cR.g cR.kp cR.b .nil pass0 (pa_cons (pv 1) pa_nil)) (pa_cons (pe_call cD.G hr (by rfl) cD.g cD.kp cD.b .nil pass0 (pa_cons (pv 0) (pa_cons (pe_ix ix_list (pe_lst (pa_cons pe_int (pa_cons pe_int (pa_cons (pe_op op_pow pe_int pe_int) pa_nil)))) (pe_call cD.G hr (by rfl) cD.g cD.kp cD.b .nil pass0 (pa_cons (pv 0) (pa_cons pe_int pa_nil))) (fun _ _ => rfl)) pa_nil))) pa_nil))))))), ?_⟩
    refine ⟨Nat.zero_le _, fun R nR => ?_⟩
    have s0 := same_upd (o := .lst []) nR
    have hRr := hS.ne nR
    refine ⟨_, rfl, r, n, 9, rfl, hS.same s0, by omega, by decide, by decide, fun cnt H1 e0 e1 hS1 k1 => ?_⟩
    have hR1 : H1 R = some (.lst []) := k1 _ _ hRr upd_same
    have k01 := (Kd.of s0).trans k1
    refine ⟨cnt, rfl, by omega, by omega, ?_⟩
    refine for_range (lo := 0) (n := cnt.toNat) (fun j σ H' => ∃ y2 y3 zs gs, σ = [some (.ref r), some (.ref R), y2, y3] ∧ H' R = some (.lst zs) ∧ Prs K H' zs gs ∧ gs.length = j ∧ GsSm 100 gs ∧ (∀ x ∈ gs, x.1 > 0) ∧ PoolAt H' r (n + 1 + 4 * j) ∧ Kd r H H') ⟨none, none, [], [], rfl, hR1, .nil, rfl, (fun x hx => by cases hx), (fun x hx => by cases hx), hS1, k01⟩ ?_ ?_
    · rintro j σ H2 hj ⟨y2, y3, zs, gs, rfl, hR2, hz, hl, hg, hp, hS2, k2⟩
      have hb1 : ∀ x ∈ [3, (10 : Int) ^ Int.toNat 9], 0 < x ∧ x ≤ big := by decide +kernel
      have hb2 : ∀ x ∈ [3, 40, (10 : Int) ^ Int.toNat 9], 0 < x ∧ x ≤ big := by decide +kernel
      have hb1' : ∀ x ∈ [3, (10 : Int) ^ Int.toNat 9], x ≤ 1000000000 := by decide +kernel
      have hb2' : ∀ x ∈ [3, 40, (10 : Int) ^ Int.toNat 9], x ≤ 1000000000 := by decide +kernel
      dsimp only [gName, tNext, tSeq]
      refine pk [3, (10 : Int) ^ Int.toNat 9] rfl (by simp) (by show 2 ≤ 10; decide) rfl (fun H Q q => ⟨_, _, rfl, rfl, ⟨by decide, by decide, by decide⟩, q⟩) hb1 hS2 (by omega) fun m H3 x3 hx3 m0 m1 hS3 k3 => ⟨_, _, rfl, rfl, ?_⟩
      have hm := hb1' _ hx3
      have hR3 := k3 _ _ hRr hR2
      refine ⟨_, rfl, .inl ⟨rfl, _, .inl (.inl hR3)⟩, _, rfl, ?_⟩
      refine pk [3, 40, (10 : Int) ^ Int.toNat 9] rfl (by simp) (by show 3 ≤ 10; decide) rfl (fun H Q q => ⟨_, _, rfl, rfl, ⟨by decide, by decide, by decide⟩, q⟩) hb2 hS3 (by omega) fun j2 H4 x4 hx4 j0 j1 hS4 k4 => ?_
      have hj2 := hb2' _ hx4
      refine ⟨by show 2 ≤ sizeLine; decide, fun t nt => ?_⟩
      have s5 := same_upd (o := .tup [.int (1 + m), .int j2]) nt
      have kk := k3.trans k4
      have hR5 := s5 _ _ (kk _ _ hRr hR2)
      have hz5 := (Prs.kd hS2 kk hz).same s5
      have hlen := hz.len
      refine ⟨R, zs, .ref t, rfl, rfl, hR5, by rw [sizeLine_eq]; omega, ?_⟩
      refine ⟨_, _, zs ++ [.ref t], gs ++ [(1 + m, j2)], rfl, upd_same, Prs.lstUpd hR5 (hz5.append (.cons ⟨t, rfl, upd_same⟩ .nil)), by rw [List.length_append, hl]; rfl, fun x hx => ?_, fun x hx => ?_, ((hS4.same s5).own hRr).mono (by omega), ((k2.trans kk).trans (Kd.of s5)).own nR⟩
      · rcases List.mem_append.mp hx with h | h
        · exact hg x h
        · rw [List.mem_singleton.mp h]
          exact ⟨by show 0 ≤ 1 + m; omega, j0, big_sm (by show 0 ≤ 1 + m; omega) (Int.le_trans (show 1 + m ≤ 1000000001 by omega) (by decide)), big_sm j0 (Int.le_trans (show j2 ≤ 1000000001 by omega) (by decide))⟩
      · rcases List.mem_append.mp hx with h | h
        · exact hp x h
        · rw [List.mem_singleton.mp h]
          show 1 + m > 0
          omega
    · rintro σ H2 ⟨y2, y3, zs, gs, rfl, hR2, hz, hl, hg, hp, hS2, k2⟩
      have hgl : gs.length ≤ 8 := by omega
      obtain ⟨g1, g2⟩ := reduced_ok hg (by omega)
      rw [reduced_all hp] at g1 g2
      refine ⟨_, rfl, R, gs, rfl, ⟨zs, .inl (.inl hR2), hz⟩, by omega, fun p H3 xs np s3 hp3 hx => ?_⟩
      have hS3 := hS2.same s3
      have hpr := hS2.ne np
      have hb1 : ∀ x ∈ [1, 9, (10 : Int) ^ Int.toNat 20], 0 < x ∧ x ≤ big := by decide +kernel
      refine pk [1, 9, (10 : Int) ^ Int.toNat 20] rfl (by simp) (by show 3 ≤ 10; decide) rfl (fun H Q q => ⟨_, _, rfl, rfl, ⟨by decide, by decide, by decide⟩, q⟩) hb1 hS3 (by omega) fun e H4 x4 hx4 e0 e1 hS4 k4 => ?_
      have he := (hb1 _ hx4).2
      refine ⟨by show 2 ≤ sizeLine; decide, fun t nt => ?_⟩
      have s5 := same_upd (o := .tup [.ref p, .int e]) nt
      have kk := (k2.trans (Kd.of s3)).trans k4
      exact q _ (Lx.merged gs, e) _ ⟨t, p, xs, rfl, kk.freeP hS4 nt, k2.freeP hS2 np, upd_same, s5 _ _ (k4 _ _ hpr hp3), (Prs.kd hS3 k4 hx).same s5⟩ ⟨g1, ⟨e0, (big_sm e0 (by omega)).mono (by decide)⟩, by show (Lx.merged gs).length ≤ 1000; omega⟩ (by show (Lx.merged gs).length ≤ 8; omega) ((hS4.same s5).mono (by omega)) (kk.trans (Kd.of s5))
theorem ok_changed {f aR aD : Addr} {fd dR dD : FuncData} {k : Nat} (F : Fun K "_law_changed" "_law_changed" sLChanged f fd) (Z : CgF mg)
    (cD : Cl P w K mg base k "_law_draw" ["pool", "many"] spDraw aD dD)
    (cR : Cl P w K mg base k "_law_put_together" ["rows"] (spPut K) aR dR) : FnOk P w K mg base CX0 (k + 1) f fd ["pool", "told"] (spChanged K) := by
  refine F.ok scChanged (fun vs H Q E h => ?_) (fun cdv A outer s H vs Q E hr h => ?_)
  · obtain ⟨r, n, x, l, g, m, rfl, _⟩ := h
    rfl
  · obtain ⟨r, n, _, l, g, m, rfl, hS, hn, ⟨p, xs, rfl, hp, hl, hP⟩, hlr, ho, hm, hgl, q⟩ := h
    refine ⟨_, (pss_cons (ps_par (i := 2) (j := 3) rfl scChanged.nd rfl rfl (by decide) rfl rfl (pa_cons (pe_callTy call_list_of (by rfl) Z.list (by decide +kernel) (pa_cons (pe_ix ix_tup (pv 1) pe_int (fun _ _ => rfl)) pa_nil)) (pa_cons (pe_ix ix_tup (pv 1) pe_int (fun _ _ => rfl)) pa_nil)) rfl)
      (pss_cons (ps_if (PW.pt (pw_or (pt_cmpR (op_eqD hr.units) (pv 2) (pe_lst pa_nil) (nomark _)) (pw_or1 (pt_cmpR op_eq (pe_call cD.G hr (by rfl) cD.g cD.kp cD.b .nil pass0 (pa_cons (pv 0) (pa_cons pe_int pa_nil))) pe_int (nomark _)))))
          (pss_one (ps_ret (pe_tup (pa_cons (pv 2) (pa_cons (pe_callB (call_max2 rfl) (by rfl) Z.max (by decide +kernel) (pa_cons pe_int (pa_cons (pe_op op_add (pv 3) (pe_ix ix_list (pe_lst (pa_cons pe_int (pa_cons (pe_un un_neg pe_int) pa_nil))) (pe_call cD.G hr (by rfl) cD.g cD.kp cD.b .nil pass0 (pa_cons (pv 0) (pa_cons pe_int pa_nil))) (fun _ _ => rfl))) pa_nil))) pa_nil))))) pss_nil)
      (pss_cons (ps_set (i := 4) scChanged.nd rfl (.inl rfl) (pe_call cD.G hr (by rfl) cD.g cD.kp cD.b .nil pass0 (pa_cons (pv 0) (pa_cons (pe_callB call_len_seq (by rfl) Z.len PySem.boot_len (pa_cons (pv 2) pa_nil)) pa_nil))))
      (pss_cons (ps_asg (pe_ix ix_list (pv 2) (pv 4) (fun _ _ => rfl)) (pg_tup (by rfl) (pgs_cons (pg_name (i := 5) scChanged.nd rfl (.inl rfl)) (pgs_cons (pg_name (i := 6) scChanged.nd rfl (.inl rfl)) pgs_nil))))
      (pss_cons (ps_asg (pe_ix ix_list (pe_lst (pa_cons (pe_tup (pa_cons (pe_op op_add (pv 5) pe_int) (pa_cons (pv 6) pa_nil))) (pa_cons (pe_tup (pa_cons (pe_callB (call_max2 rfl) (by rfl) Z.max (by decide +kernel) (pa_cons pe_int (pa_cons (pe_op op_sub (pv 5) pe_int) pa_nil))) (pa_cons (pv 6) pa_nil))) (pa_cons (pe_tup (pa_cons (pv 5) (pa_cons (pe_op op_add (pv 6) pe_int) pa_nil))) pa_nil)))) (pe_call cD.G hr (by rfl) cD.g cD.kp cD.b .nil pass0 (pa_cons (pv 0) (pa_cons pe_int pa_nil))) (fun _ _ => rfl)) (pg_sub (pv 2) (pv 4) set_list))
      (pss_one (ps_ret (pe_tup (pa_cons (pe_call cR.G hr (by rfl) cR.g cR.kp cR.b .nil pass0 (pa_cons (pv 2) pa_nil)) (pa_cons (pv 3) pa_nil)))))))))), ?_⟩
    refine ⟨_, rfl, p, _, 0, _, rfl, rfl, .inl (.inl hp), atI_nat (j := 0) rfl, ?_⟩
    refine ⟨l, _, rfl, .inl (.inl (.inl hl)), fun D nD => ?_⟩
    have s1 := same_upd (o := .lst xs) nD
    have hDr := hS.ne nD
    refine ⟨_, rfl, p, _, 1, _, rfl, rfl, .inl (.inl (s1 _ _ hp)), atI_nat (j := 1) rfl, _, _, rfl, ?_⟩
    have hxl := hP.len
    have hD1 : upd H D (.lst xs) D = some (.lst xs) := upd_same
    have hP1 := hP.same s1
    have hS1 := hS.same s1
    have k1 : Kd r H (upd H D (.lst xs)) := Kd.of s1
    generalize upd H D (.lst xs) = H1 at s1 hD1 hP1 hS1 k1
    have o1 : Sm m 1 := Nat.lt_of_lt_of_le (by decide : (1 : Int).natAbs < 2 ^ 1) (Nat.pow_le_pow_right (by decide) hm)
    dsimp only [gName, tNext, tSeq]
    refine if_fin (fun σ H2 => σ = [some (.ref r), some (.ref p), some (.ref D), some (.int g.2), none, none, none] ∧ g.1 ≠ [] ∧ H2 D = some (.lst xs) ∧ Prs K H2 xs g.1 ∧ PoolAt H2 r (n + 1) ∧ Kd r H H2) (fun R hR => ?_) (fun σ H2 hF => ?_)
    · refine ⟨_, rfl, Nat.zero_le _, fun e0 ne0 => ?_⟩
      have se := same_upd (o := .lst []) ne0
      refine ⟨.list (pd g.1), .list [], (Dq.lst (se _ _ hD1) (Prs.dq (hP1.same se))).dp, (Dq.lst upd_same .nil).dp, pd_shaped _, by decide, _, rfl, ?_⟩
      rw [pd_nil]
      have hSe := hS1.same se
      have hDe := se _ _ hD1
      have hPe := hP1.same se
      have ke := k1.trans (Kd.of se)
      generalize upd H1 e0 (.lst []) = H2 at se hSe hDe hPe ke
      have fin : ∀ H3 n', PoolAt H3 r n' → n' ≤ n + 4 → H3 D = some (.lst xs) → Prs K H3 xs g.1 → Kd r H H3 → tTup (tCons (tVar 2) (tCons (tCB (fun xs H Q => ∃ i j, xs = [V.int i, V.int j] ∧ Q (V.int (if j > i then j else i)) H) (tCons (tC (.int 0)) (tCons (tOp (rI0 fun i j => V.int (i + j)) (tVar 3) (tOp (rIxL K) (tLst (tCons (tC (.int 1)) (tCons (tUn (rU fun i => V.int (-i)) (tC (.int 1))) tNil))) (tCall spDraw [] E0 (tCons (tVar 0) (tCons (tC (.int 2)) tNil))))) tNil))) tNil)) [some (.ref r), some (.ref p), some (.ref D), some (.int g.2), none, none, none] H3 Q := fun H3 n' hS3 hn' hD3 hP3 k3 => by
        refine ⟨_, rfl, _, rfl, _, rfl, by show 2 ≤ sizeLine; decide, fun T nT => ?_⟩
        have s4 := same_upd (o := .lst [.int 1, .int (-1)]) nT
        refine ⟨_, rfl, r, n', 2, rfl, hS3.same s4, by omega, by decide, by decide, fun c H5 c0 c1 hS5 k5 => ?_⟩
        have hT := hS3.ne nT
        have hT5 : H5 T = some (.lst [.int 1, .int (-1)]) := k5 _ _ hT upd_same
        have pick : ∃ d : Int, atI [V.int 1, .int (-1)] c = some (.int d) ∧ -1 ≤ d ∧ d ≤ 1 := by
          have : c = 0 ∨ c = 1 := by omega
          rcases this with rfl | rfl
          · exact ⟨1, rfl, by decide, by decide⟩
          · exact ⟨-1, rfl, by decide, by decide⟩
        obtain ⟨d, hd, d0, d1⟩ := pick
        refine ⟨T, _, c, _, rfl, rfl, .inl (.inl hT5), hd, _, _, rfl, rfl, _, _, rfl, by show 2 ≤ sizeLine; decide, fun t nt => ?_⟩
        have s6 := same_upd (o := .tup [.ref D, .int (if g.2 + d > 0 then g.2 + d else 0)]) nt
        have k45 := (Kd.of s4).trans k5
        have kk := k3.trans k45
        have hr0 := ho.rest.1
        have hy : 0 ≤ (if g.2 + d > 0 then g.2 + d else 0) ∧ (if g.2 + d > 0 then g.2 + d else 0) ≤ g.2 + 1 := by split <;> omega
        exact q _ (g.1, if g.2 + d > 0 then g.2 + d else 0) _ ⟨t, D, xs, rfl, kk.freeP hS5 nt, nD, upd_same, s6 _ _ (k45 _ _ hDr hD3), (Prs.kd hS3 k45 hP3).same s6⟩ ⟨(ho.mono (by omega : m ≤ m + 12)).gs, ⟨hy.1, (Sm.of_le hy.1 hy.2 (ho.rest.2.add o1)).mono (by omega)⟩, ho.len⟩ (Nat.le_refl _) ((hS5.same s6).mono (by omega)) (kk.trans (Kd.of s6))
      by_cases hg : g.1 = []
      · rw [decide_eq_true hg]
        exact iteT (fin H2 _ hSe (by omega) hDe hPe ke)
      · rw [decide_eq_false hg]
        refine iteF ⟨_, rfl, r, n, 3, rfl, hSe, by omega, by decide, by decide, fun c H3 c0 c1 hS3 k3 => ⟨rfl, _, rfl, ite2 (fun c => ?_) (fun c => ?_)⟩⟩
        · exact fin H3 _ hS3 (by omega) (k3 _ _ hDr hDe) (Prs.kd hSe k3 hPe) (ke.trans k3)
        · exact hR _ _ ⟨rfl, hg, k3 _ _ hDr hDe, Prs.kd hSe k3 hPe, hS3, ke.trans k3⟩
    · obtain ⟨rfl, hne, hD2, hP2, hS2, k2⟩ := hF
      have hpos : 0 < xs.length := by
        cases xs with
        | nil => exact absurd (List.eq_nil_of_length_eq_zero hxl.symm) hne
        | cons x xs => exact Nat.succ_pos _
      refine ⟨_, rfl, _, rfl, D, _, rfl, .inl (.inl (.inl hD2)), r, _, (xs.length : Int), rfl, hS2, by omega, by omega, Nat.lt_of_lt_of_le (show (xs.length : Int).natAbs < 2 ^ 10 by omega) (Nat.pow_le_pow_right (by decide) (by decide)), fun v H3 v0 v1 hS3 k3 => ?_⟩
      have hD3 := k3 _ _ hDr hD2
      have hP3 := Prs.kd hS2 k3 hP2
      have k03 := k2.trans k3
      obtain ⟨sp, rfl⟩ := Int.eq_ofNat_of_zero_le v0
      have hlt : sp < xs.length := by omega
      obtain ⟨x, hx, a, hxa, ha⟩ := hP3.get (List.getElem?_eq_getElem hlt)
      dsimp only [gName, tNext, tSeq]
      refine ⟨_, rfl, _, rfl, D, _, _, _, rfl, rfl, .inl (.inl hD3), atI_nat (List.getElem?_eq_getElem hlt), a, _, hxa, .inl (.inl ha), rfl, _, _, rfl, _, _, rfl, rfl, ?_⟩
      have hxm := List.mem_of_getElem? hx
      obtain ⟨x1, x2, x3, x4⟩ := (RnOk.sm ho).1 x hxm
      obtain ⟨ii, hii⟩ := List.mem_iff_getElem?.mp hxm
      have xp := (ho.gs ii x hii).1
      dsimp only [tNext, tSeq]
      refine ⟨_, rfl, _, _, rfl, rfl, _, rfl, by show 2 ≤ sizeLine; decide, fun t1 n1 => ?_⟩
      refine ⟨_, rfl, _, _, rfl, rfl, _, _, rfl, _, rfl, by show 2 ≤ sizeLine; decide, fun t2 n2 => ?_⟩
      refine ⟨_, rfl, _, rfl, _, _, rfl, rfl, by show 2 ≤ sizeLine; decide, fun t3 n3 => ?_⟩
      refine ⟨by show 3 ≤ sizeLine; decide, fun T nT => ?_⟩
      have z1 := same_upd (o := .tup [.int (x.1 + 1), .int x.2]) n1
      have z2 := same_upd (o := .tup [.int (if x.1 - 1 > 1 then x.1 - 1 else 1), .int x.2]) n2
      have z3 := same_upd (o := .tup [.int x.1, .int (x.2 + 1)]) n3
      have z4 := same_upd (o := .lst [.ref t1, .ref t2, .ref t3]) nT
      have sA := ((z1.trans z2).trans z3).trans z4
      refine ⟨_, rfl, r, _, 3, rfl, hS3.same sA, by omega, by decide, by decide, fun v3 H4 w0 w1 hS4 k4 => ?_⟩
      have hSA := hS3.same sA
      have hTr : T ≠ r := (hS3.same ((z1.trans z2).trans z3)).ne nT
      have hT4 : H4 T = some (.lst [.ref t1, .ref t2, .ref t3]) := k4 _ _ hTr upd_same
      have h1 := z4 _ _ (z3 _ _ (z2 _ _ (upd_same : upd H3 t1 (.tup [.int (x.1 + 1), .int x.2]) t1 = _)))
      have h2 := z4 _ _ (z3 _ _ (upd_same : upd (upd H3 t1 (.tup [.int (x.1 + 1), .int x.2])) t2 (.tup [.int (if x.1 - 1 > 1 then x.1 - 1 else 1), .int x.2]) t2 = _))
      have h3 := z4 _ _ (upd_same : upd (upd (upd H3 t1 (.tup [.int (x.1 + 1), .int x.2])) t2 (.tup [.int (if x.1 - 1 > 1 then x.1 - 1 else 1), .int x.2])) t3 (.tup [.int x.1, .int (x.2 + 1)]) t3 = _)
      have pick : ∃ (pt : Addr) (y : Int × Int), atI [V.ref t1, .ref t2, .ref t3] v3 = some (.ref pt) ∧ H4 pt = some (.tup [.int y.1, .int y.2]) ∧ 0 < y.1 ∧ 0 ≤ y.2 ∧ Sm (m + 1) y.1 ∧ Sm (m + 1) y.2 := by
        have : v3 = 0 ∨ v3 = 1 ∨ v3 = 2 := by omega
        rcases this with rfl | rfl | rfl
        · exact ⟨t1, (x.1 + 1, x.2), rfl, k4 _ _ (hSA.neT h1) h1, by show 0 < x.1 + 1; omega, x2, x3.add o1, x4.mono (Nat.le_succ m)⟩
        · refine ⟨t2, (if x.1 - 1 > 1 then x.1 - 1 else 1, x.2), rfl, k4 _ _ (hSA.neT h2) h2, ?_, x2, ?_, x4.mono (Nat.le_succ m)⟩
          · show 0 < (if x.1 - 1 > 1 then x.1 - 1 else 1)
            split <;> omega
          · exact Sm.of_le (by show 0 ≤ (if x.1 - 1 > 1 then x.1 - 1 else 1); split <;> omega) (by show (if x.1 - 1 > 1 then x.1 - 1 else 1) ≤ x.1; split <;> omega) (x3.mono (Nat.le_succ m))
        · exact ⟨t3, (x.1, x.2 + 1), rfl, k4 _ _ (hSA.neT h3) h3, by show 0 < x.1; omega, by show 0 ≤ x.2 + 1; omega, x3.mono (Nat.le_succ m), x4.add o1⟩
      obtain ⟨pt, y, hpt, hpy, hy0, hy⟩ := pick
      have kB := (Kd.of sA).trans k4
      have hD4 := kB _ _ hDr hD3
      have hix : ixN xs.length (sp : Int) = some sp := by
        unfold ixN
        simp
        omega
      refine ⟨T, _, v3, _, rfl, rfl, .inl (.inl hT4), hpt, _, rfl, _, rfl, D, _, _, sp, rfl, rfl, hD4, hix, ?_⟩
      have hP4 := Prs.lstUpd (o := .lst (xs.set sp (.ref pt))) hD4 (Prs.kd hS3 kB hP3)
      have hpy' : upd H4 D (.lst (xs.set sp (.ref pt))) pt = some (.tup [.int y.1, .int y.2]) := by
        rw [upd_ne (ne_of hpy hD4 (by intro z; cases z))]
        exact hpy
      have hP5 := Prs.set hP4 sp (⟨pt, rfl, hpy'⟩ : PrAt _ (V.ref pt) y)
      have hg5 : GsSm (m + 1) (g.1.set sp y) := set_sm (fun x hx => let ⟨q1, q2, q3, q4⟩ := (RnOk.sm ho).1 x hx; ⟨q1, q2, q3.mono (Nat.le_succ m), q4.mono (Nat.le_succ m)⟩) ⟨Int.le_of_lt hy0, hy⟩
      have hpos5 : ∀ z ∈ g.1.set sp y, z.1 > 0 := fun z hz => by
        rcases List.mem_or_eq_of_mem_set hz with h1 | h1
        · obtain ⟨jj, hjj⟩ := List.mem_iff_getElem?.mp h1
          have := (ho.gs jj z hjj).1
          omega
        · rw [h1]; exact hy0
      have hl5 : (g.1.set sp y).length = g.1.length := List.length_set ..
      obtain ⟨g1, g2⟩ := reduced_ok hg5 (by omega)
      rw [reduced_all hpos5] at g1 g2
      have hS5 := hS4.own (o := .lst (xs.set sp (.ref pt))) hDr
      have hD5 : upd H4 D (.lst (xs.set sp (.ref pt))) D = some (.lst (xs.set sp (.ref pt))) := upd_same
      have kC : Kd r H (upd H4 D (.lst (xs.set sp (.ref pt)))) := (k03.trans kB).own nD
      generalize upd H4 D (.lst (xs.set sp (.ref pt))) = H5 at hS5 hD5 hP5 kC
      refine ⟨_, rfl, D, _, rfl, ⟨_, .inl (.inl hD5), hP5⟩, by omega, fun p5 H6 ws np5 s6 hp5 hw => ?_⟩
      refine ⟨_, rfl, by show 2 ≤ sizeLine; decide, fun t nt => ?_⟩
      have s7 := same_upd (o := .tup [.ref p5, .int g.2]) nt
      have kD := kC.trans (Kd.of s6)
      exact q _ (Lx.merged (g.1.set sp y), g.2) _ ⟨t, p5, ws, rfl, kD.freeP (hS5.same s6) nt, kC.freeP hS5 np5, upd_same, s7 _ _ hp5, hw.same s7⟩ ⟨g1, ⟨ho.rest.1, ho.rest.2.mono (by omega)⟩, by show (Lx.merged (g.1.set sp y)).length ≤ 1000; omega⟩ (by show (Lx.merged (g.1.set sp y)).length ≤ g.1.length; omega) (((hS5.same s6).same s7).mono (by omega)) (kD.trans (Kd.of s7))
end
end Lw
namespace Lw
open PySem PySem.Spec L2 Lx
theorem scMerged : FnScope ["groups", "merged", "many", "j"] ["groups"] (defScope sMerged) := ⟨rfl, rfl, rfl, by decide +kernel, rfl, by decide +kernel, by decide +kernel⟩
def spMerged (K : PySem.W.Frag) : Sp := fun vs H Q _ => ∃ l gs, vs = [.ref l] ∧ GsAt K H l gs ∧ gs.length ≤ 1000 ∧ ∀ p H' xs, H p = none → Same H H' → H' p = some (.lst xs) → Prs K H' xs (merged gs) → Q (.ref p) H'
section
variable {P : Program} {w : World} {K : PySem.W.Frag} {mg : Str → Option Value} {base : Heap} {aL aN aS : Addr}
theorem ok_merged {f : Addr} {fd : FuncData} {k : Nat} (F : Fun K "merged_groups" "merged_groups" sMerged f fd) : FnOk P w K mg base CX0 (k + 1) f fd ["groups"] (spMerged K) := by
  refine F.ok scMerged (fun vs H Q E h => ?_) (fun cdv A outer s H vs Q E hr h => ?_)
  · obtain ⟨l, gs, rfl, _⟩ := h
    rfl
  · obtain ⟨l, gs, rfl, ⟨xs, hL, hP⟩, hlen, q⟩ := h
    refine ⟨_, pss_cons (ps_set (i := 1) scMerged.nd rfl (.inl rfl) (pe_lst pa_nil))
      (pss_cons (ps_for PassesOwn.never rfl (pi_list (pv 0)) (pg_tup (by rfl) (pgs_cons (pg_name (i := 2) scMerged.nd rfl (.inl rfl)) (pgs_cons (pg_name (i := 3) scMerged.nd rfl (.inl rfl)) pgs_nil)))
        (pss_one (ps_if (PW.pt (pw_and (pt_truth (pv 1) (fun _ => rfl)) (pw_and1 (pt_cmpR op_eq (pe_ix ix_tup (pe_ix ix_list (pv 1) (pe_un un_neg pe_int) (fun _ _ => rfl)) pe_int (fun _ _ => rfl)) (pv 3) (nomark _)))))
          (pss_one (ps_asg (pe_tup (pa_cons (pe_op op_add (pe_ix ix_tup (pe_ix ix_list (pv 1) (pe_un un_neg pe_int) (fun _ _ => rfl)) pe_int (fun _ _ => rfl)) (pv 2)) (pa_cons (pv 3) pa_nil))) (pg_sub (pv 1) (pe_un un_neg pe_int) set_list)))
          (pss_one (ps_expr (pe_bm PySem.F.plainAttrs_list PySem.F.slot_list_append PySem.F.type_list_append mt_append (pv 1) (pa_cons (pe_tup (pa_cons (pv 2) (pa_cons (pv 3) pa_nil))) pa_nil)))))))
      (pss_one (ps_ret (pv 1)))), ?_⟩
    refine ⟨Nat.zero_le _, fun p np => ?_⟩
    refine ⟨_, rfl, l, rfl, ⟨_, (same_upd (o := .lst []) np).seq hL⟩, ?_⟩
    refine for_it (walk_list (xs := xs)) (fun i σ H' => Same H H' ∧ ∃ y2 y3 zs, σ = [some (.ref l), some (.ref p), y2, y3] ∧ H' p = some (.lst zs) ∧ Prs K H' zs (merged (gs.take i)) ∧ zs.length ≤ i)
      ⟨same_upd np, none, none, [], rfl, upd_same, .nil, Nat.le_refl _⟩ (fun i σ H' _ hQ => hQ.1.seq hL) ?_ ?_
    · rintro i u σ H1 H2 hi ⟨sm, y2, y3, zs, rfl, hp, hz, hzl⟩ ⟨rfl, hu⟩
      obtain ⟨x, hx, a, rfl, ha'⟩ := hP.get hu
      have ha : SqT K H a [.int x.1, .int x.2] := .inl (.inl ha')
      have htk : merged (gs.take (i + 1)) = addTo (Lx.merged (gs.take i)) x := by
        unfold Lx.merged
        rw [List.take_succ, hx, List.foldl_append]
        rfl
      have ha1 := sameT sm ha
      have hxl := hP.len
      refine ⟨a, _, rfl, ha1, rfl, _, _, rfl, _, _, rfl, rfl, ?_⟩
      refine ⟨_, rfl, !zs.isEmpty, .inl ⟨zs, .inl (.inl hp), rfl⟩, ?_⟩
      have app : ∀ t, H2 t = none → addTo (Lx.merged (gs.take i)) x = Lx.merged (gs.take i) ++ [x] →
          Same H (upd (upd H2 t (.tup [.int x.1, .int x.2])) p (.lst (zs ++ [.ref t]))) ∧ (upd (upd H2 t (.tup [.int x.1, .int x.2])) p (.lst (zs ++ [.ref t]))) p = some (.lst (zs ++ [.ref t])) ∧
          Prs K (upd (upd H2 t (.tup [.int x.1, .int x.2])) p (.lst (zs ++ [.ref t]))) (zs ++ [.ref t]) (merged (gs.take (i + 1))) ∧ (zs ++ [V.ref t]).length ≤ i + 1 := fun t nt e => by
        have s1 := same_upd (o := .tup [.int x.1, .int x.2]) nt
        refine ⟨Same.own (sm.trans s1) np, upd_same, ?_, by rw [List.length_append]; exact Nat.add_le_add_right hzl 1⟩
        rw [htk, e]
        exact Prs.lstUpd (s1 _ _ hp) ((hz.same s1).append (.cons ⟨t, rfl, upd_same⟩ .nil))
      rcases snoc_or (Lx.merged (gs.take i)) with e0 | ⟨as, y, e0⟩
      · have hz0 : zs = [] := by
          have := hz.len
          rw [e0] at this
          exact List.eq_nil_of_length_eq_zero this
        have app' := app
        subst hz0
        refine iteF (iteF ?_)
        refine ⟨_, rfl, .inl ⟨rfl, _, .inl (.inl hp)⟩, _, rfl, _, rfl, by show 2 ≤ sizeLine; decide, fun t nt => ?_⟩
        refine ⟨p, [], .ref t, rfl, rfl, same_upd nt _ _ hp, by rw [sizeLine_eq]; decide, ?_⟩
        obtain ⟨r1, r2, r3, r4⟩ := app t nt (by rw [e0]; rfl)
        exact ⟨r1, _, _, _, rfl, r2, r3, r4⟩
      · rw [e0] at hz
        obtain ⟨ws, v, rfl, hw, a2, rfl, ha2'⟩ := Prs.back hz
        have ha2 : SqT K H2 a2 [.int y.1, .int y.2] := .inl (.inl ha2')
        have hemp : (!(ws ++ [V.ref a2]).isEmpty) = true := by simp
        rw [hemp]
        refine iteT ?_
        refine ⟨_, rfl, 1, rfl, p, _, -1, _, rfl, rfl, .inl (.inl hp), atI_last ws (.ref a2), a2, _, 1, _, rfl, rfl, ha2, atI_nat (j := 1) rfl, _, rfl, rfl, _, rfl, ?_⟩
        by_cases ej : y.2 = x.2
        · rw [decide_eq_true (by rw [ej])]
          refine iteT ?_
          refine ⟨_, rfl, 1, rfl, p, _, -1, _, rfl, rfl, .inl (.inl hp), atI_last ws (.ref a2), a2, _, 0, _, rfl, rfl, ha2, atI_nat (j := 0) rfl, _, rfl, _, _, rfl, rfl, _, rfl, by show 2 ≤ sizeLine; decide, fun t nt => ?_⟩
          have s1 := same_upd (o := .tup [.int (y.1 + x.1), .int x.2]) nt
          refine ⟨_, rfl, 1, rfl, p, _, -1, _, rfl, rfl, s1 _ _ hp, ixN_last ws (.ref a2), ?_⟩
          have eset : (ws ++ [V.ref a2]).set ws.length (.ref t) = ws ++ [V.ref t] := by simp
          rw [eset]
          refine ⟨Same.own (sm.trans s1) np, _, _, ws ++ [.ref t], rfl, upd_same, ?_, ?_⟩
          · rw [htk, e0, addTo_snoc, if_pos ej]
            exact Prs.lstUpd (s1 _ _ hp) ((hw.same s1).append (.cons ⟨t, rfl, upd_same⟩ .nil))
          · simp only [List.length_append, List.length_cons, List.length_nil] at hzl ⊢
            omega
        · rw [decide_eq_false (fun z => ej (V.int.inj z))]
          refine iteF ?_
          refine ⟨_, rfl, .inl ⟨rfl, _, .inl (.inl hp)⟩, _, rfl, _, rfl, by show 2 ≤ sizeLine; decide, fun t nt => ?_⟩
          refine ⟨p, _, .ref t, rfl, rfl, same_upd nt _ _ hp, by rw [sizeLine_eq]; simp only [List.length_append, List.length_cons, List.length_nil] at hzl ⊢; have := hP.len; omega, ?_⟩
          obtain ⟨r1, r2, r3, r4⟩ := app t nt (by rw [e0, addTo_snoc, if_neg ej])
          exact ⟨r1, _, _, _, rfl, r2, r3, r4⟩
    · rintro σ H1 ⟨sm, y2, y3, zs, rfl, hp, hz, hzl⟩
      rw [List.take_of_length_le (by rw [← hP.len]; exact Nat.le_refl _)] at hz
      exact ⟨_, rfl, q p H1 zs np sm hp hz⟩
end
end Lw
namespace Lw
open PySem PySem.Spec L2 Lx
theorem scSigns : FnScope ["j", "wanted"] ["j", "wanted"] (defScope sSigns) := ⟨rfl, rfl, rfl, by decide +kernel, rfl, by decide +kernel, by decide +kernel⟩
theorem scUog : FnScope ["j", "wanted"] ["j", "wanted"] (defScope sUog) := ⟨rfl, rfl, rfl, by decide +kernel, rfl, by decide +kernel, by decide +kernel⟩
def spUog (K : PySem.W.Frag) : Sp := fun vs H Q _ => ∃ j x f, vs = [.int j, x] ∧ FmAt K H x f ∧ Q (.int (f.after j + 1)) H
def spSigns (K : PySem.W.Frag) : Sp := fun vs H Q _ => ∃ j x f, vs = [.int j, x] ∧ FmAt K H x f ∧ Q (.int (f.after j)) H
section
variable {P : Program} {w : World} {K : PySem.W.Frag} {mg : Str → Option Value} {base : Heap} {aL aN aS : Addr}
theorem ok_signs {f : Addr} {fd : FuncData} {k : Nat} (F : Fun K "signs_after" "signs_after" sSigns f fd) (mX : mg "max" = none) : FnOk P w K mg base CX0 (k + 1) f fd ["j", "wanted"] (spSigns K) := by
  refine F.ok scSigns (fun vs H Q E h => ?_) (fun cdv A outer s H vs Q E hr h => ?_)
  · obtain ⟨j, x, f, rfl, _⟩ := h
    rfl
  · obtain ⟨j, _, f, rfl, ⟨p, rfl, hT⟩, q⟩ := h
    refine ⟨_, pss_one (ps_ret (pe_op op_add (pe_callB (call_max2 rfl) (by rfl) mX (by decide +kernel) (pa_cons pe_int (pa_cons (pe_op op_sub (pv 0) (pe_ix ix_tup (pv 1) pe_int (fun _ _ => rfl))) pa_nil))) (pe_ix ix_tup (pv 1) pe_int (fun _ _ => rfl)))), ?_⟩
    refine ⟨_, rfl, _, rfl, p, _, 1, _, rfl, rfl, hT, atI_nat (j := 1) f.vs1, _, _, rfl, rfl, _, _, rfl, _, rfl, p, _, 2, _, rfl, rfl, hT, atI_nat (j := 2) f.vs2, _, _, rfl, rfl, q⟩
theorem ok_uog {f fS : Addr} {fd fdS : FuncData} {k : Nat} (F : Fun K "units_of_group" "units_of_group" sUog f fd) (GS : FnOk P w K mg base CX0 k fS fdS ["j", "wanted"] (spSigns K)) (kS : PySem.W.keepIn K (.ref fS) = true) (bS : Binds K fdS ["j", "wanted"] []) (gS : mg "signs_after" = some (.ref fS)) :
    FnOk P w K mg base CX0 (k + 1) f fd ["j", "wanted"] (spUog K) := by
  refine F.ok scUog (fun vs H Q E h => ?_) (fun cdv A outer s H vs Q E hr h => ?_)
  · obtain ⟨j, x, f, rfl, _⟩ := h
    rfl
  · obtain ⟨j, x, f, rfl, hx, q⟩ := h
    refine ⟨_, pss_one (ps_ret (pe_op op_add (pe_call GS hr (by rfl) gS kS bS .nil pass0 (pa_cons (pv 0) (pa_cons (pv 1) pa_nil))) pe_int)), ?_⟩
    exact ⟨_, rfl, _, rfl, j, x, f, rfl, hx, _, _, rfl, rfl, q⟩
end
end Lw
namespace Lw
open PySem PySem.Spec L2 Lx
abbrev nUnits : List Str := ["run", "wanted", "groups", "rest", "many", "j"]
theorem scUnits : FnScope nUnits ["run", "wanted"] (defScope sUnits) := ⟨rfl, rfl, rfl, by decide +kernel, rfl, by decide +kernel, by decide +kernel⟩
def spUnits (K : PySem.W.Frag) : Sp := fun vs H Q _ => ∃ x l r y f n, vs = [x, y] ∧ RnAt K H x l r ∧ FmAt K H y f ∧ RnSm n r ∧ f.Ok n ∧ n ≤ 100000 ∧ ∀ H', Same H H' → Q (.int (units r f)) H'
section
variable {P : Program} {w : World} {K : PySem.W.Frag} {mg : Str → Option Value} {base : Heap} {aL aN aS : Addr}
theorem ok_units {f fS : Addr} {fd fdS : FuncData} {k : Nat} (F : Fun K "units" "units" sUnits f fd) (GS : FnOk P w K mg base CX0 k fS fdS ["j", "wanted"] (spUog K)) (kS : PySem.W.keepIn K (.ref fS) = true) (bS : Binds K fdS ["j", "wanted"] []) (gS : mg "units_of_group" = some (.ref fS)) (mS : mg "sum" = none) :
    FnOk P w K mg base CX0 (k + 1) f fd ["run", "wanted"] (spUnits K) := by
  refine F.ok scUnits (fun vs H Q E h => ?_) (fun cdv A outer s H vs Q E hr h => ?_)
  · obtain ⟨x, l, r, y, f, n, rfl, _⟩ := h
    rfl
  · obtain ⟨_, l, r, y, f, n, rfl, ⟨p, rfl, hT, xs, hL, hP⟩, hy, hs, hf, hn, q⟩ := h
    refine ⟨_, pss_cons (ps_asg (pv 0) (pg_tup (by rfl) (pgs_cons (pg_name (i := 2) scUnits.nd rfl (.inl rfl)) (pgs_cons (pg_name (i := 3) scUnits.nd rfl (.inl rfl)) pgs_nil))))
      (pss_one (ps_ret (pe_op op_add (pe_callB (cr_sum rfl) (by rfl) mS (by decide +kernel) (pa_cons (pe_lc (own := [("many", 4), ("j", 5)]) (g := gTup K 2 (gCons (gName 4) (gCons (gName 5) gNil))) (tt := tYes) rfl scUnits.nd (pi_list (pv 2)) (blkOk_by (own := [("many", 4), ("j", 5)]) (N := nUnits) (sc := defScope sUnits) (by decide +kernel))
          (fun _ _ _ _ _ => pg_tup (by rfl) (pgs_cons (pg_name (i := 4) scUnits.nd rfl (.inl rfl)) (pgs_cons (pg_name (i := 5) scUnits.nd rfl (.inl rfl)) pgs_nil))) (fun _ _ _ _ _ => pts_nil)
          (fun _ _ _ _ _ => pe_op op_mulW (pv 4) (pe_call GS hr (by rfl) gS kS bS .nil pass0 (pa_cons (pv 5) (pa_cons (pv 1) pa_nil))))) pa_nil)) (pv 3)))), ?_⟩
    refine ⟨_, rfl, p, _, rfl, hT, rfl, _, _, rfl, _, _, rfl, rfl, ?_⟩
    refine ⟨_, rfl, l, rfl, ⟨_, hL⟩, fun D nD => ?_⟩
    refine lc_it (walk_list (xs := xs)) (fun i H' => Same H H' ∧ H' D = some (.lst (((r.1.take i).map fun x => x.1 * (f.after x.2 + 1)).map V.int))) ⟨same_upd nD, upd_same⟩ (fun i H' _ hQ => hQ.1.seq hL) ?_ ?_
    · rintro i u H1 H2 hi ⟨sm, hD⟩ ⟨rfl, hu⟩
      obtain ⟨x, hx, a, rfl, ha'⟩ := hP.get hu
      have ha : SqT K H a [.int x.1, .int x.2] := .inl (.inl ha')
      have hxm := List.mem_of_getElem? hx
      obtain ⟨x1, x2, x3, x4⟩ := hs.1 x hxm
      have hb := Fm.after_ok (hf.mono (Nat.le_succ n)) x2 (x4.mono (Nat.le_succ n))
      have hb2 : Sm (n + 3) (f.after x.2 + 1) := hb.2.add (Nat.lt_of_lt_of_le (by decide : (1 : Int).natAbs < 2 ^ 1) (Nat.pow_le_pow_right (by decide) (by omega)))
      refine ⟨a, _, rfl, sameT sm ha, rfl, _, _, rfl, _, _, rfl, rfl, rfl, ?_⟩
      refine ⟨_, rfl, _, rfl, _, rfl, x.2, y, f, rfl, hy.same sm, _, _, rfl, rfl, wide_mul (x3.mono (Nat.le_succ n)) hb2 (by omega) (by omega) (by omega), ?_⟩
      refine ⟨_, hD, ?_, Same.own sm nD, ?_⟩
      · have := hs.2.2.2
        rw [List.length_map, List.length_map, List.length_take, sizeLine_eq]
        omega
      · rw [upd_same, List.take_succ, hx, List.map_append, List.map_append]
        rfl
    · rintro H1 ⟨sm, hD⟩
      rw [List.take_of_length_le (by rw [← hP.len]; exact Nat.le_refl _)] at hD
      refine ⟨D, _, rfl, .inl (.inl hD), _, rfl, _, _, rfl, rfl, ?_⟩
      rw [sum_mapV]
      exact q _ sm
end
end Lw
namespace Lw
open PySem PySem.Spec L2 Lx
abbrev nRunAft : List Str := ["run", "wanted", "groups", "rest", "many", "j"]
theorem scRunAft : FnScope nRunAft ["run", "wanted"] (defScope sRunAft) := ⟨rfl, rfl, rfl, by decide +kernel, rfl, by decide +kernel, by decide +kernel⟩
theorem scRou : FnScope ["total", "wanted", "number"] ["total", "wanted"] (defScope sRou) := ⟨rfl, rfl, rfl, by decide +kernel, rfl, by decide +kernel, by decide +kernel⟩
def spRou (K : PySem.W.Frag) : Sp := fun vs H Q _ => ∃ t y f n, vs = [.int t, y] ∧ FmAt K H y f ∧ Fm.isKeep f = false ∧ f.Ok n ∧ Sm (2 * n + 20) t ∧ 0 < n ∧ n ≤ 100000 ∧ ∀ v H', Same H H' → NewRn K H H' v (ofUnits t f) → Q v H'
def spRunAft (K : PySem.W.Frag) : Sp := fun vs H Q _ => ∃ x l r y f n, vs = [x, y] ∧ RnAt K H x l r ∧ FmAt K H y f ∧ RnSm n r ∧ f.Ok n ∧ 0 < n ∧ n ≤ 100000 ∧ ∀ v H', Same H H' → NewRn K H H' v (runAfter r f) → Q v H'
section
variable {P : Program} {w : World} {K : PySem.W.Frag} {mg : Str → Option Value} {base : Heap} {aL aN aS : Addr}
theorem ok_rou {f : Addr} {fd : FuncData} {k : Nat} (F : Fun K "run_of_units" "run_of_units" sRou f fd) : FnOk P w K mg base CX0 (k + 1) f fd ["total", "wanted"] (spRou K) := by
  refine F.ok scRou (fun vs H Q E h => ?_) (fun cdv A outer s H vs Q E hr h => ?_)
  · obtain ⟨t, y, f, n, rfl, _⟩ := h
    rfl
  · obtain ⟨tot, _, f, n, rfl, ⟨yp, rfl, hY⟩, hk, hf, hu, hn0, hn, q⟩ := h
    refine ⟨_, pss_cons (ps_set (i := 2) scRou.nd rfl (.inl rfl) (pe_op op_mulW (pe_ix ix_tup (pv 1) pe_int (fun _ _ => rfl)) (pv 0)))
      (pss_cons (ps_if (pt_cmpR op_eq (pe_ix ix_tup (pv 1) pe_int (fun _ _ => rfl)) pe_str (nomark _)) (pss_one (ps_ret (pe_tup (pa_cons (pe_lst pa_nil) (pa_cons (pv 2) pa_nil))))) pss_nil)
      (pss_cons (ps_if (pt_cmpR op_eq (pv 2) pe_int (nomark _)) (pss_one (ps_ret (pe_tup (pa_cons (pe_lst pa_nil) (pa_cons pe_int pa_nil))))) pss_nil)
      (pss_one (ps_ret (pe_tup (pa_cons (pe_lst (pa_cons (pe_tup (pa_cons (pv 2) (pa_cons (pe_ix ix_tup (pv 1) pe_int (fun _ _ => rfl)) pa_nil))) pa_nil)) (pa_cons pe_int pa_nil))))))), ?_⟩
    cases f with
    | keep b a => cases hk
    | cr b a k' =>
      refine ⟨_, rfl, yp, _, 3, _, rfl, rfl, hY, atI_nat (j := 3) rfl, _, rfl, _, _, rfl, rfl, wide_mul hf.2.2.2.2.2 hu hn0 (by omega) (by omega), ?_⟩
      refine ⟨_, rfl, yp, _, 0, _, rfl, rfl, hY, atI_nat (j := 0) rfl, rfl, _, rfl, iteT ?_⟩
      refine ⟨Nat.zero_le _, fun p2 np2 => ⟨_, rfl, by show 2 ≤ sizeLine; decide, fun t nt => ?_⟩⟩
      have s2 := same_upd (o := .lst []) np2
      have s3 := same_upd (o := .tup [.ref p2, .int (k' * tot)]) nt
      exact q _ _ (s2.trans s3) ⟨t, p2, [], rfl, s2.free nt, np2, upd_same, s3 _ _ upd_same, .nil⟩
    | lf b a k' c =>
      refine ⟨_, rfl, yp, _, 3, _, rfl, rfl, hY, atI_nat (j := 3) rfl, _, rfl, _, _, rfl, rfl, wide_mul hf.2.2.2.2.2.2.1 hu hn0 (by omega) (by omega), ?_⟩
      refine ⟨_, rfl, yp, _, 0, _, rfl, rfl, hY, atI_nat (j := 0) rfl, rfl, _, rfl, iteF ?_⟩
      refine ⟨_, rfl, rfl, _, rfl, ?_⟩
      by_cases ez : k' * tot = 0
      · rw [decide_eq_true (show V.int (k' * tot) = V.int 0 by rw [ez])]
        refine iteT ⟨Nat.zero_le _, fun p2 np2 => ⟨by show 2 ≤ sizeLine; decide, fun t nt => ?_⟩⟩
        have s2 := same_upd (o := .lst []) np2
        have s3 := same_upd (o := .tup [.ref p2, .int 0]) nt
        refine q _ _ (s2.trans s3) ?_
        rw [show ofUnits tot (.lf b a k' c) = ([], 0) from if_pos ez]
        exact ⟨t, p2, [], rfl, s2.free nt, np2, upd_same, s3 _ _ upd_same, .nil⟩
      · rw [decide_eq_false (fun z => ez (V.int.inj z))]
        refine iteF ⟨_, rfl, _, rfl, yp, _, 4, _, rfl, rfl, hY, atI_nat (j := 4) rfl, by show 2 ≤ sizeLine; decide, fun g ng => ⟨by show 1 ≤ sizeLine; decide, fun p2 np2 => ⟨by show 2 ≤ sizeLine; decide, fun t nt => ?_⟩⟩⟩
        have s1 := same_upd (o := .tup [.int (k' * tot), .int c]) ng
        have s2 := same_upd (o := .lst [.ref g]) np2
        have s3 := same_upd (o := .tup [.ref p2, .int 0]) nt
        refine q _ _ ((s1.trans s2).trans s3) ?_
        rw [show ofUnits tot (.lf b a k' c) = ([(k' * tot, c)], 0) from if_neg ez]
        exact ⟨t, p2, [.ref g], rfl, (s1.trans s2).free nt, s1.free np2, upd_same, s3 _ _ upd_same, .cons ⟨g, rfl, s3 _ _ (s2 _ _ upd_same)⟩ .nil⟩
theorem ok_runAft {f fS fM fU fR : Addr} {fd fdS fdM fdU fdR : FuncData} {k : Nat} (F : Fun K "run_after" "run_after" sRunAft f fd)
    (GS : FnOk P w K mg base CX0 k fS fdS ["j", "wanted"] (spSigns K)) (kS : PySem.W.keepIn K (.ref fS) = true) (bS : Binds K fdS ["j", "wanted"] []) (gS : mg "signs_after" = some (.ref fS))
    (GM : FnOk P w K mg base CX0 k fM fdM ["groups"] (spMerged K)) (kM : PySem.W.keepIn K (.ref fM) = true) (bM : Binds K fdM ["groups"] []) (gM : mg "merged_groups" = some (.ref fM))
    (GU : FnOk P w K mg base CX0 k fU fdU ["run", "wanted"] (spUnits K)) (kU : PySem.W.keepIn K (.ref fU) = true) (bU : Binds K fdU ["run", "wanted"] []) (gU : mg "units" = some (.ref fU))
    (GR : FnOk P w K mg base CX0 k fR fdR ["total", "wanted"] (spRou K)) (kR : PySem.W.keepIn K (.ref fR) = true) (bR : Binds K fdR ["total", "wanted"] []) (gR : mg "run_of_units" = some (.ref fR)) :
    FnOk P w K mg base CX0 (k + 1) f fd ["run", "wanted"] (spRunAft K) := by
  refine F.ok scRunAft (fun vs H Q E h => ?_) (fun cdv A outer s H vs Q E hr h => ?_)
  · obtain ⟨x, l, r, y, f, n, rfl, _⟩ := h
    rfl
  · obtain ⟨_, l, r, y, f, n, rfl, ⟨p, rfl, hT, xs, hL, hP⟩, ⟨yp, rfl, hY⟩, hs, hf, hn0, hn, q⟩ := h
    refine ⟨_, pss_cons (ps_asg (pv 0) (pg_tup (by rfl) (pgs_cons (pg_name (i := 2) scRunAft.nd rfl (.inl rfl)) (pgs_cons (pg_name (i := 3) scRunAft.nd rfl (.inl rfl)) pgs_nil))))
      (pss_cons (ps_if (pt_cmpR op_eq (pe_ix ix_tup (pv 1) pe_int (fun _ _ => rfl)) pe_str (nomark _)) (pss_one (ps_ret (pe_tup (pa_cons (pe_call GM hr (by rfl) gM kM bM .nil pass0 (pa_cons (pe_lc (own := [("many", 4), ("j", 5)]) (g := gTup K 2 (gCons (gName 4) (gCons (gName 5) gNil))) (tt := tYes) rfl scRunAft.nd (pi_list (pv 2)) (blkOk_by (own := [("many", 4), ("j", 5)]) (N := nRunAft) (sc := defScope sRunAft) (by decide +kernel))
          (fun _ _ _ _ _ => pg_tup (by rfl) (pgs_cons (pg_name (i := 4) scRunAft.nd rfl (.inl rfl)) (pgs_cons (pg_name (i := 5) scRunAft.nd rfl (.inl rfl)) pgs_nil))) (fun _ _ _ _ _ => pts_nil)
          (fun _ _ _ _ _ => pe_tup (pa_cons (pv 4) (pa_cons (pe_call GS hr (by rfl) gS kS bS .nil pass0 (pa_cons (pv 5) (pa_cons (pv 1) pa_nil))) pa_nil)))) pa_nil)) (pa_cons (pv 3) pa_nil))))) pss_nil)
      (pss_one (ps_ret (pe_call GR hr (by rfl) gR kR bR .nil pass0 (pa_cons (pe_call GU hr (by rfl) gU kU bU .nil pass0 (pa_cons (pv 0) (pa_cons (pv 1) pa_nil))) (pa_cons (pv 1) pa_nil)))))), ?_⟩
    refine ⟨_, rfl, p, _, rfl, hT, rfl, _, _, rfl, _, _, rfl, rfl, ?_⟩
    refine ⟨_, rfl, yp, _, 0, _, rfl, rfl, hY, atI_nat (j := 0) f.vs0, rfl, _, rfl, ?_⟩
    have hu := units_ok hs hf
    cases f with
    | keep b a =>
      refine iteT ⟨_, rfl, l, rfl, ⟨_, hL⟩, fun D nD => ?_⟩
      refine lc_it (walk_list (xs := xs)) (fun i H' => Same H H' ∧ ∃ zs, H' D = some (.lst zs) ∧ Prs K H' zs (moved (.keep b a) (r.1.take i))) ⟨same_upd nD, [], upd_same, .nil⟩ (fun i H' _ hQ => hQ.1.seq hL) ?_ ?_
      · rintro i u H1 H2 hi ⟨sm, zs, hD, hz⟩ ⟨rfl, hu⟩
        obtain ⟨x, hx, ap, rfl, ha'⟩ := hP.get hu
        have ha : SqT K H ap [.int x.1, .int x.2] := .inl (.inl ha')
        refine ⟨ap, _, rfl, sameT sm ha, rfl, _, _, rfl, _, _, rfl, rfl, rfl, ?_⟩
        refine ⟨_, rfl, _, rfl, _, rfl, x.2, _, .keep b a, rfl, ⟨yp, rfl, sameT sm hY⟩, by show 2 ≤ sizeLine; decide, fun t nt => ?_⟩
        have s1 := same_upd (o := .tup [.int x.1, .int ((Fm.keep b a).after x.2)]) nt
        have hzl : zs.length ≤ 1000 := by
          have e1 := hz.len
          have e2 := hs.2.2.2
          unfold moved at e1
          rw [List.length_map, List.length_take] at e1
          omega
        refine ⟨zs, s1 _ _ hD, by rw [sizeLine_eq]; omega, Same.own (sm.trans s1) nD, _, upd_same, ?_⟩
        have e : moved (.keep b a) (r.1.take (i + 1)) = moved (.keep b a) (r.1.take i) ++ [(x.1, (Fm.keep b a).after x.2)] := by
          unfold moved
          rw [List.take_succ, hx, List.map_append]
          rfl
        rw [e]
        exact Prs.lstUpd (s1 _ _ hD) ((hz.same s1).append (.cons ⟨t, rfl, upd_same⟩ .nil))
      · rintro H1 ⟨sm, zs, hD, hz⟩
        rw [List.take_of_length_le (by rw [← hP.len]; exact Nat.le_refl _)] at hz
        have hml : (moved (.keep b a) r.1).length ≤ 1000 := by
          unfold moved
          rw [List.length_map]
          exact hs.2.2.2
        refine ⟨D, _, rfl, ⟨zs, .inl (.inl hD), hz⟩, hml, fun p2 H2 ws np2 s2 hp2 hw => ?_⟩
        refine ⟨_, rfl, by show 2 ≤ sizeLine; decide, fun t nt => ?_⟩
        have s3 := same_upd (o := .tup [.ref p2, .int r.2]) nt
        exact q _ _ ((sm.trans s2).trans s3) ⟨t, p2, ws, rfl, (sm.trans s2).free nt, sm.free np2, upd_same, s3 _ _ hp2, hw.same s3⟩
    | cr b a k' =>
      refine iteF ⟨_, rfl, _, rfl, _, l, r, _, .cr b a k', n, rfl, ⟨p, rfl, hT, xs, hL, hP⟩, ⟨yp, rfl, hY⟩, hs, hf, hn, fun H1 sm => ?_⟩
      refine ⟨_, rfl, _, _, .cr b a k', n, rfl, ⟨yp, rfl, sameT sm hY⟩, rfl, hf, hu.2, hn0, hn, fun v H2 s2 hv => q v H2 (sm.trans s2) (NewRn.back sm hv)⟩
    | lf b a k' c =>
      refine iteF ⟨_, rfl, _, rfl, _, l, r, _, .lf b a k' c, n, rfl, ⟨p, rfl, hT, xs, hL, hP⟩, ⟨yp, rfl, hY⟩, hs, hf, hn, fun H1 sm => ?_⟩
      refine ⟨_, rfl, _, _, .lf b a k' c, n, rfl, ⟨yp, rfl, sameT sm hY⟩, rfl, hf, hu.2, hn0, hn, fun v H2 s2 hv => q v H2 (sm.trans s2) (NewRn.back sm hv)⟩
end
end Lw
namespace Lw
open PySem PySem.Spec L2 Lx
theorem scIsForm : FnScope ["wanted"] ["wanted"] (defScope sIsForm) := ⟨rfl, rfl, rfl, by decide +kernel, rfl, by decide +kernel, by decide +kernel⟩
theorem scChkForm : FnScope ["wanted"] ["wanted"] (defScope sChkForm) := ⟨rfl, rfl, rfl, by decide +kernel, rfl, by decide +kernel, by decide +kernel⟩
def spIsForm (K : PySem.W.Frag) : Sp := fun vs H Q _ => ∃ x f n, vs = [x] ∧ FmAt K H x f ∧ f.Ok n ∧ ∀ H', Same H H' → Q (.bl true) H'
def spChkForm (K : PySem.W.Frag) : Sp := fun vs H Q _ => ∃ x f n, vs = [x] ∧ FmAt K H x f ∧ f.Ok n ∧ ∀ H', Same H H' → Q .non H'
section
variable {P : Program} {w : World} {K : PySem.W.Frag} {mg : Str → Option Value} {base : Heap} {aL aN aS : Addr}
theorem ok_isForm {f : Addr} {fd : FuncData} {k : Nat} (F : Fun K "is_form" "is_form" sIsForm f fd) (T : LenT K w mg aL) (mL : mg "len" = none) (mM : mg "min" = none) : FnOk P w K mg base CX0 (k + 1) f fd ["wanted"] (spIsForm K) := by
  refine F.ok scIsForm (fun vs H Q E h => ?_) (fun cdv A outer s H vs Q E hr h => ?_)
  · obtain ⟨x, f, n, rfl, _⟩ := h
    rfl
  · obtain ⟨_, f, n, rfl, ⟨p, rfl, hT⟩, ho, q⟩ := h
    refine ⟨_, pss_cons (ps_if (PW.pt (pw_or (pt_not (pt_truth (pv 0) (fun _ => rfl))) (pw_or1 (pt_cmpR op_ne (pe_kget (pe_glob (v := .ref aL) rfl T.g rfl) (pe_ix ix_tup (pv 0) pe_int (fun _ _ => rfl)) ⟨rfl, rfl, rfl, rfl⟩) (pe_callB call_len_seq (by rfl) mL PySem.boot_len (pa_cons (pv 0) pa_nil)) (nomark _))))) (pss_one (ps_ret pe_bl)) pss_nil)
      (pss_cons (ps_if (pt_cmpR op_lt (pe_callB (call_minT rfl) (by rfl) mM (by decide +kernel) (pa_cons (pe_slice sl_tup (pv 0) (po_some pe_int) po_none) pa_nil)) pe_int (nomark _)) (pss_one (ps_ret pe_bl)) pss_nil)
      (pss_one (ps_ret (pe_or (pe_cmpR op_eq (pe_ix ix_tup (pv 0) pe_int (fun _ _ => rfl)) pe_str (nomark _)) (pe_one (pe_cmpR op_gt (pe_ix ix_tup (pv 0) pe_int (fun _ _ => rfl)) pe_int (nomark _))))))), ?_⟩
    obtain ⟨es, dn, D⟩ := T.d
    obtain ⟨t, ht⟩ := T.at f
    have hne : f.vs.isEmpty = false := by cases f <;> rfl
    refine ⟨_, rfl, true, .inr (.inl ⟨f.vs, hT, by rw [hne]; rfl⟩), iteF ?_⟩
    refine ⟨aL, es, dn, rfl, D, _, rfl, p, _, 0, _, rfl, rfl, hT, atI_nat (j := 0) f.vs0, f.nm, _, .int f.vs.length, rfl, ht, ⟨t, rfl⟩, ?_⟩
    refine ⟨_, rfl, p, f.vs, rfl, .inr hT, ?_⟩
    refine ⟨rfl, _, rfl, ?_⟩
    rw [decide_eq_true rfl]
    refine iteF ?_
    refine ⟨_, rfl, 1, rfl, p, f.vs, rfl, hT, wh f, fun p2 n2 => ?_⟩
    rw [cut1]
    have s2 := same_upd (o := .tup (f.nums.map V.int)) n2
    refine ⟨p2, f.nums, rfl, .inl (.inl upd_same), np f, fun m hm _ => ?_⟩
    refine ⟨_, _, rfl, rfl, _, rfl, ?_⟩
    rw [decide_eq_false (by have := nums0 ho m hm; omega : ¬ m < 0)]
    refine iteF ?_
    refine ⟨_, rfl, p, _, 0, _, rfl, rfl, sameT s2 hT, atI_nat (j := 0) f.vs0, rfl, _, rfl, ?_⟩
    cases f with
    | keep b a => exact iteT (q _ s2)
    | lf b a k c =>
      refine iteF ⟨_, rfl, p, _, 3, .int k, rfl, rfl, sameT s2 hT, atI_nat (j := 3) rfl, _, _, rfl, rfl, ?_⟩
      show Q (.bl (decide (0 < k))) _
      rw [decide_eq_true (by have := ho.2.2.1; omega : 0 < k)]
      exact q _ s2
    | cr b a k =>
      refine iteF ⟨_, rfl, p, _, 3, .int k, rfl, rfl, sameT s2 hT, atI_nat (j := 3) rfl, _, _, rfl, rfl, ?_⟩
      show Q (.bl (decide (0 < k))) _
      rw [decide_eq_true (by have := ho.2.2.1; omega : 0 < k)]
      exact q _ s2
theorem ok_chkForm {f fI : Addr} {fd fdI : FuncData} {k : Nat} (F : Fun K "check_form" "check_form" sChkForm f fd) (GI : FnOk P w K mg base CX0 k fI fdI ["wanted"] (spIsForm K)) (kI : PySem.W.keepIn K (.ref fI) = true) (bI : Binds K fdI ["wanted"] []) (gI : mg "is_form" = some (.ref fI)) :
    FnOk P w K mg base CX0 (k + 1) f fd ["wanted"] (spChkForm K) := by
  refine F.ok scChkForm (fun vs H Q E h => ?_) (fun cdv A outer s H vs Q E hr h => ?_)
  · obtain ⟨x, f, n, rfl, _⟩ := h
    rfl
  · obtain ⟨x, f, n, rfl, hf, ho, q⟩ := h
    refine ⟨_, pss_one (ps_if (pt_not (pt_val (pe_call GI hr (by rfl) gI kI bI .nil pass0 (pa_cons (pv 0) pa_nil)))) (pss_one ps_never) pss_nil), ?_⟩
    refine ⟨_, rfl, x, f, n, rfl, hf, ho, fun H' sm => ?_⟩
    exact ⟨_, rfl, iteF (q _ sm)⟩
end
end Lw
namespace Lw
open PySem PySem.Spec L2 Lx
theorem scChkRun : FnScope ["run", "groups", "rest", "before", "index", "many", "j"] ["run"] (defScope sChkRun) := ⟨rfl, rfl, rfl, by decide +kernel, rfl, by decide +kernel, by decide +kernel⟩
def spChkRun (K : PySem.W.Frag) : Sp := fun vs H Q _ => ∃ x l r n, vs = [x] ∧ RnAt K H x l r ∧ RnOk n r ∧ ∀ H', Same H H' → Q .non H'
section
variable {P : Program} {w : World} {K : PySem.W.Frag} {mg : Str → Option Value} {base : Heap} {aL aN aS : Addr}
theorem ok_chkRun {f : Addr} {fd : FuncData} {k : Nat} (F : Fun K "check_run" "check_run" sChkRun f fd) (mE : mg "enumerate" = none) : FnOk P w K mg base CX0 (k + 1) f fd ["run"] (spChkRun K) := by
  refine F.ok scChkRun (fun vs H Q E h => ?_) (fun cdv A outer s H vs Q E hr h => ?_)
  · obtain ⟨x, l, r, n, rfl, _⟩ := h
    rfl
  · obtain ⟨_, l, r, n, rfl, ⟨p, rfl, hT, xs, hL, hP⟩, ho, q⟩ := h
    refine ⟨_, pss_cons (ps_asg (pv 0) (pg_tup (by rfl) (pgs_cons (pg_name (i := 1) scChkRun.nd rfl (.inl rfl)) (pgs_cons (pg_name (i := 2) scChkRun.nd rfl (.inl rfl)) pgs_nil))))
      (pss_cons (ps_set (i := 3) scChkRun.nd rfl (.inl rfl) pe_non)
      (pss_cons (ps_for PassesOwn.never rfl (pi_enum rfl mE (pa_cons (pv 1) pa_nil)) (pg_tup (by rfl) (pgs_cons (pg_name (i := 4) scChkRun.nd rfl (.inl rfl)) (pgs_cons (pg_tup (by rfl) (pgs_cons (pg_name (i := 5) scChkRun.nd rfl (.inl rfl)) (pgs_cons (pg_name (i := 6) scChkRun.nd rfl (.inl rfl)) pgs_nil))) pgs_nil)))
        (pss_cons (ps_if (PW.pt (pw_or (pt_cmpR op_lt (pv 5) pe_int (nomark _)) (pw_or (pt_cmpR op_lt (pv 6) pe_int (nomark _)) (pw_or1 (pt_cmpR op_eq (pv 6) (pv 3) (nomark _)))))) (pss_one ps_never) pss_nil)
        (pss_one (ps_set (i := 3) scChkRun.nd rfl (.inl rfl) (pv 6)))))
      (pss_one (ps_if (pt_cmpR op_lt (pv 2) pe_int (nomark _)) (pss_one ps_never) pss_nil)))), ?_⟩
    refine ⟨_, rfl, p, _, rfl, hT, rfl, _, _, rfl, _, _, rfl, rfl, ?_⟩
    refine ⟨_, rfl, l, xs, rfl, hL, ?_⟩
    refine for_it (walk_enum (xs := xs)) (fun i σ H' => Same H H' ∧ ∃ bf y4 y5 y6, σ = [some (.ref p), some (.ref l), some (.int r.2), some bf, y4, y5, y6] ∧ (i = 0 → bf = .non) ∧ ∀ i' x, i = i' + 1 → r.1[i']? = some x → bf = .int x.2)
      ⟨Same.refl H, .non, none, none, none, rfl, fun _ => rfl, fun _ _ e => by cases e⟩ (fun i σ H' _ hP => hP.1.seq hL) ?_ ?_
    · rintro i v σ H1 H2 hi ⟨sm, bf, y4, y5, y6, rfl, hb0, hb1⟩ ⟨T, u1, u2, rfl, nT, rfl, h1, h2⟩
      cases Option.some.inj h1
      obtain ⟨x, hx, p2, rfl, hp2'⟩ := hP.get h2
      have hp2 : SqT K H p2 [.int x.1, .int x.2] := .inl (.inl hp2')
      have s2 := sm.trans (same_upd (o := .tup [.int (i : Nat), .ref p2]) nT)
      obtain ⟨o1, o2, _, _, o5⟩ := ho.gs i x hx
      refine ⟨T, _, rfl, .inl (.inl upd_same), rfl, _, _, rfl, _, _, rfl, p2, _, rfl, sameT s2 hp2, rfl, _, _, rfl, _, _, rfl, rfl, rfl, ?_⟩
      refine ⟨_, rfl, _, _, rfl, rfl, _, rfl, ?_⟩
      rw [decide_eq_false (by omega : ¬ x.1 < 1)]
      refine iteF ⟨_, rfl, _, _, rfl, rfl, _, rfl, ?_⟩
      rw [decide_eq_false (by omega : ¬ x.2 < 0)]
      refine iteF ⟨_, rfl, _, rfl, ?_⟩
      have hne : scal (.int x.2) bf = true ∧ ¬ (V.int x.2 = bf) := by
        cases i with
        | zero =>
          cases hb0 rfl
          exact ⟨rfl, by intro z; cases z⟩
        | succ i' =>
          have hlt : i' < r.1.length := by
            have := (List.getElem?_eq_some_iff.mp hx).1
            omega
          have e := hb1 i' _ rfl (List.getElem?_eq_getElem hlt)
          subst e
          refine ⟨rfl, fun z => ?_⟩
          exact (ho.gs i' _ (List.getElem?_eq_getElem hlt)).2.2.2.2 x hx (V.int.inj z)
      refine ⟨hne.1, _, rfl, ?_⟩
      rw [decide_eq_false hne.2]
      refine iteF ⟨_, rfl, s2, _, _, _, _, rfl, (fun e => by cases e), fun i' x' e hx' => ?_⟩
      cases Nat.succ.inj e
      rw [hx] at hx'
      cases hx'
      rfl
    · rintro σ H1 ⟨sm, bf, y4, y5, y6, rfl, _⟩
      refine ⟨_, rfl, _, _, rfl, rfl, _, rfl, ?_⟩
      rw [decide_eq_false (by have := ho.rest.1; omega : ¬ r.2 < 0)]
      exact iteF (q _ sm)
end
end Lw
namespace Lw
open PySem PySem.Spec L2 Lx
theorem scIsRun : FnScope ["run"] ["run"] (defScope sIsRun) := ⟨rfl, rfl, rfl, by decide +kernel, rfl, by decide +kernel, by decide +kernel⟩
theorem scChkP : FnScope ["pairs", "index", "first", "second"] ["pairs"] (defScope sCheckPairs) := ⟨rfl, rfl, rfl, by decide +kernel, rfl, by decide +kernel, by decide +kernel⟩
theorem scFall : FnScope ["pairs", "wanted", "first", "second"] ["pairs", "wanted"] (defScope sFitsAll) := ⟨rfl, rfl, rfl, by decide +kernel, rfl, by decide +kernel, by decide +kernel⟩
theorem scFits : FnScope ["pairs", "wanted"] ["pairs", "wanted"] (defScope sFits) := ⟨rfl, rfl, rfl, by decide +kernel, rfl, by decide +kernel, by decide +kernel⟩
/-! ### pairs of runs whose groups lie outside of a set of addresses that may change -/
abbrev Rn := List (Int × Int) × Int
def Kx (S : Addr → Prop) (H H' : Hp) : Prop := ∀ b o, ¬ S b → H b = some o → H' b = some o
theorem Kx.of {S : Addr → Prop} {H H' : Hp} (s : Same H H') : Kx S H H' := fun b o _ h => s b o h
theorem Kx.trans {S : Addr → Prop} {H H1 H2 : Hp} (a : Kx S H H1) (b : Kx S H1 H2) : Kx S H H2 := fun c o h1 h => b c o h1 (a c o h1 h)
theorem Kx.kd {S : Addr → Prop} {d : Addr} {H H' : Hp} (hd : S d) (k : Kd d H H') : Kx S H H' := fun b o h e => k b o (fun z => h (z ▸ hd)) e
def Lsts (S : Addr → Prop) (H : Hp) : Prop := ∀ b, S b → ∃ xs, H b = some (.lst xs)
theorem Prs.kx {K : PySem.W.Frag} {S : Addr → Prop} {H H' : Hp} (hS : Lsts S H) (k : Kx S H H') : ∀ {vs : List V} {gs : List (Int × Int)}, Prs K H vs gs → Prs K H' vs gs
  | _, _, .nil => .nil
  | _, _, .cons ⟨p, e, h⟩ t => .cons ⟨p, e, k _ _ (fun z => by obtain ⟨xs, q⟩ := hS _ z; rw [h] at q; cases q) h⟩ (Prs.kx hS k t)
theorem Lsts.nT {S : Addr → Prop} {H : Hp} (hS : Lsts S H) {p : Addr} {xs : List V} (h : H p = some (.tup xs)) : ¬ S p := fun z => by
  obtain ⟨ys, q⟩ := hS _ z
  rw [h] at q
  cases q
theorem RnS.kx {K : PySem.W.Frag} {S : Addr → Prop} {H H' : Hp} (hS : Lsts S H) (k : Kx S H H') {v : V} {l : Addr} {g : Rn} (nl : ¬ S l) : RnS K H v l g → RnS K H' v l g :=
  fun ⟨p, xs, h1, h2, h3, h4⟩ => ⟨p, xs, h1, k _ _ (hS.nT h2) h2, k _ _ nl h3, Prs.kx hS k h4⟩
def PrA (K : PySem.W.Frag) (S : Addr → Prop) (H : Hp) (v : V) (g : Rn × Rn) : Prop := ∃ t x l y l', v = .ref t ∧ H t = some (.tup [x, y]) ∧ RnS K H x l g.1 ∧ ¬ S l ∧ RnS K H y l' g.2 ∧ ¬ S l'
inductive PsA (K : PySem.W.Frag) (S : Addr → Prop) (H : Hp) : List V → List (Rn × Rn) → Prop
  | nil : PsA K S H [] []
  | cons {v g vs gs} : PrA K S H v g → PsA K S H vs gs → PsA K S H (v :: vs) (g :: gs)
theorem PrA.kx {K : PySem.W.Frag} {S : Addr → Prop} {H H' : Hp} (hS : Lsts S H) (k : Kx S H H') {v : V} {g : Rn × Rn} : PrA K S H v g → PrA K S H' v g :=
  fun ⟨t, x, l, y, l', h1, h2, h3, h4, h5, h6⟩ => ⟨t, x, l, y, l', h1, k _ _ (hS.nT h2) h2, h3.kx hS k h4, h4, h5.kx hS k h6, h6⟩
theorem PrA.same {K : PySem.W.Frag} {S : Addr → Prop} {H H' : Hp} (s : Same H H') {v : V} {g : Rn × Rn} : PrA K S H v g → PrA K S H' v g :=
  fun ⟨t, x, l, y, l', h1, h2, h3, h4, h5, h6⟩ => ⟨t, x, l, y, l', h1, s _ _ h2, h3.same s, h4, h5.same s, h6⟩
theorem PsA.kx {K : PySem.W.Frag} {S : Addr → Prop} {H H' : Hp} (hS : Lsts S H) (k : Kx S H H') : ∀ {vs : List V} {gs : List (Rn × Rn)}, PsA K S H vs gs → PsA K S H' vs gs
  | _, _, .nil => .nil
  | _, _, .cons h t => .cons (h.kx hS k) (PsA.kx hS k t)
theorem PsA.same {K : PySem.W.Frag} {S : Addr → Prop} {H H' : Hp} (s : Same H H') : ∀ {vs : List V} {gs : List (Rn × Rn)}, PsA K S H vs gs → PsA K S H' vs gs
  | _, _, .nil => .nil
  | _, _, .cons h t => .cons (h.same s) (PsA.same s t)
theorem PsA.len {K : PySem.W.Frag} {S : Addr → Prop} {H : Hp} : ∀ {vs : List V} {gs : List (Rn × Rn)}, PsA K S H vs gs → vs.length = gs.length
  | _, _, .nil => rfl
  | _, _, .cons _ t => congrArg (· + 1) (PsA.len t)
theorem PsA.get {K : PySem.W.Frag} {S : Addr → Prop} {H : Hp} : ∀ {vs : List V} {gs : List (Rn × Rn)}, PsA K S H vs gs → ∀ {i : Nat} {v : V}, vs[i]? = some v → ∃ g, gs[i]? = some g ∧ PrA K S H v g
  | _, _, .nil, i, v, e => by simp at e
  | _, _, .cons h t, 0, v, e => by
    simp only [List.getElem?_cons_zero, Option.some.injEq] at e
    subst e
    exact ⟨_, rfl, h⟩
  | _, _, .cons h t, i + 1, v, e => by
    rw [List.getElem?_cons_succ] at e ⊢
    exact PsA.get t e
theorem PsA.append {K : PySem.W.Frag} {S : Addr → Prop} {H : Hp} : ∀ {vs ws : List V} {gs hs : List (Rn × Rn)}, PsA K S H vs gs → PsA K S H ws hs → PsA K S H (vs ++ ws) (gs ++ hs)
  | _, _, _, _, .nil, b => b
  | _, _, _, _, .cons h t, b => .cons h (PsA.append t b)
theorem PsA.set {K : PySem.W.Frag} {S : Addr → Prop} {H : Hp} : ∀ {vs : List V} {gs : List (Rn × Rn)}, PsA K S H vs gs → ∀ {v : V} {g : Rn × Rn} (i : Nat), PrA K S H v g → PsA K S H (vs.set i v) (gs.set i g)
  | _, _, .nil, _, _, _, _ => .nil
  | _, _, .cons _ t, _, _, 0, h => .cons h t
  | _, _, .cons a t, _, _, i + 1, h => .cons a (PsA.set t i h)
def pdt (g : Rn × Rn) : PyData := .tuple [rd g.1, rd g.2]
theorem PrA.dq {K : PySem.W.Frag} {S : Addr → Prop} {H : Hp} {v : V} {g : Rn × Rn} : PrA K S H v g → Dq K H v (pdt g) := fun ⟨t, x, l, y, l', h1, h2, h3, _, h5, _⟩ => by
  subst h1
  exact .tup (.inl ⟨_, h2⟩) (.inl (.inl h2)) (.cons (RnS.dq h3) (.cons (RnS.dq h5) .nil))
theorem PsA.dq {K : PySem.W.Frag} {S : Addr → Prop} {H : Hp} : ∀ {vs : List V} {gs : List (Rn × Rn)}, PsA K S H vs gs → DqAll K H vs (gs.map pdt)
  | _, _, .nil => .nil
  | _, _, .cons h t => .cons h.dq (PsA.dq t)
def fitB (f : Fm) (q : Rn × Rn) : Bool := PyData.eqv (rd (runAfter q.1 f)) (rd q.2)
def spIsRun (K : PySem.W.Frag) : Sp := fun vs H Q _ => ∃ x l r n, vs = [x] ∧ RnAt K H x l r ∧ RnOk n r ∧ ∀ H', Same H H' → Q (.bl true) H'
def spChkP (K : PySem.W.Frag) : Sp := fun vs H Q _ => ∃ D zs S ps n, vs = [.ref D] ∧ SqL K H D zs ∧ PsA K S H zs ps ∧ (∀ q ∈ ps, RnOk n q.1 ∧ RnOk n q.2) ∧ ps.length ≤ 1000 ∧ ∀ H', Same H H' → Q .non H'
def spFits (K : PySem.W.Frag) : Sp := fun vs H Q _ => ∃ D zs S ps y f n, vs = [.ref D, y] ∧ SqL K H D zs ∧ PsA K S H zs ps ∧ (∀ q ∈ ps, RnOk n q.1 ∧ RnOk n q.2) ∧ ps.length ≤ 1000 ∧ FmAt K H y f ∧ f.Ok n ∧ 0 < n ∧ n ≤ 100000 ∧ ∀ H', Same H H' → Q (.bl (ps.all (fitB f))) H'
structure CpF (mg : Str → Option Value) : Prop where
  enumerate : mg "enumerate" = none
structure FlF (mg : Str → Option Value) : Prop where
  all : mg "all" = none
section
variable {P : Program} {w : World} {K : PySem.W.Frag} {mg : Str → Option Value} {base : Heap}
theorem ok_isrun {f aR : Addr} {fd dR : FuncData} {k : Nat} (F : Fun K "is_run" "is_run" sIsRun f fd)
    (cR : Cl P w K mg base k "check_run" ["run"] (spChkRun K) aR dR) : FnOk P w K mg base CX0 (k + 1) f fd ["run"] (spIsRun K) := by
  refine F.ok scIsRun (fun vs H Q E h => ?_) (fun cdv A outer s H vs Q E hr h => ?_)
  · obtain ⟨x, l, r, n, rfl, _⟩ := h
    rfl
  · obtain ⟨x, l, r, n, rfl, hx, ho, q⟩ := h
    refine ⟨_, (pss_cons (ps_try_thru0 (pss_one (ps_expr (pe_call cR.G hr (by rfl) cR.g cR.kp cR.b .nil pass0 (pa_cons (pv 0) pa_nil))))) (pss_one (ps_ret pe_bl))), ?_⟩
    exact ⟨_, rfl, x, l, r, n, rfl, hx, ho, fun H1 s1 => q H1 s1⟩
theorem ok_chkp {f aI : Addr} {fd dI : FuncData} {k : Nat} (F : Fun K "check_pairs" "check_pairs" sCheckPairs f fd) (Z : CpF mg)
    (cI : Cl P w K mg base k "is_run" ["run"] (spIsRun K) aI dI) : FnOk P w K mg base CX0 (k + 1) f fd ["pairs"] (spChkP K) := by
  refine F.ok scChkP (fun vs H Q E h => ?_) (fun cdv A outer s H vs Q E hr h => ?_)
  · obtain ⟨D, zs, S, ps, n, rfl, _⟩ := h
    rfl
  · obtain ⟨D, zs, S, ps, n, rfl, hD, hz, ho, hl, q⟩ := h
    refine ⟨_, (pss_one (ps_for PassesOwn.never rfl (pi_enum rfl Z.enumerate (pa_cons (pv 0) pa_nil)) (pg_tup (by rfl) (pgs_cons (pg_name (i := 1) scChkP.nd rfl (.inl rfl)) (pgs_cons (pg_tup (by rfl) (pgs_cons (pg_name (i := 2) scChkP.nd rfl (.inl rfl)) (pgs_cons (pg_name (i := 3) scChkP.nd rfl (.inl rfl)) pgs_nil))) pgs_nil)))
          (pss_one (ps_if (PW.pt (pw_or (pt_not (pt_val (pe_call cI.G hr (by rfl) cI.g cI.kp cI.b .nil pass0 (pa_cons (pv 2) pa_nil)))) (pw_or1 (pt_not (pt_val (pe_call cI.G hr (by rfl) cI.g cI.kp cI.b .nil pass0 (pa_cons (pv 3) pa_nil)))))))
              (pss_one ps_never) pss_nil)))), ?_⟩
    refine ⟨_, rfl, D, zs, rfl, hD, ?_⟩
    refine for_it (walk_enum (xs := zs)) (fun i σ H' => Same H H' ∧ ∃ y1 y2 y3, σ = [some (.ref D), y1, y2, y3]) ⟨Same.refl H, none, none, none, rfl⟩ (fun i σ H' _ hP => hP.1.seq hD) ?_ ?_
    · rintro i v σ H1 H2 hi ⟨sm, y1, y2, y3, rfl⟩ ⟨T, u1, u2, rfl, nT, rfl, h1, h2⟩
      cases Option.some.inj h1
      obtain ⟨g, hg, t, x, l, y, l', rfl, ht, hx, _, hy, _⟩ := hz.get h2
      have s2 := sm.trans (same_upd (o := .tup [.int (i : Nat), .ref t]) nT)
      obtain ⟨o1, o2⟩ := ho g (List.mem_of_getElem? hg)
      refine ⟨T, _, rfl, .inl (.inl upd_same), rfl, _, _, rfl, _, _, rfl, t, _, rfl, .inl (.inl (s2 _ _ ht)), rfl, _, _, rfl, _, _, rfl, rfl, rfl, ?_⟩
      refine ⟨_, rfl, x, l, g.1, n, rfl, (hx.same s2).rn, o1, fun H3 s3 => ⟨_, rfl, ?_⟩⟩
      refine ⟨_, rfl, y, l', g.2, n, rfl, (hy.same (s2.trans s3)).rn, o2, fun H4 s4 => ⟨_, rfl, ?_⟩⟩
      exact ⟨(s2.trans s3).trans s4, _, _, _, rfl⟩
    · rintro σ H1 ⟨sm, y1, y2, y3, rfl⟩
      exact q H1 sm
theorem ok_fall {f aY : Addr} {fd dY : FuncData} {k : Nat} (F : Fun K "fits_all" "fits_all" sFitsAll f fd) (Z : FlF mg)
    (cY : Cl P w K mg base k "run_after" ["run", "wanted"] (spRunAft K) aY dY) : FnOk P w K mg base CX0 (k + 1) f fd ["pairs", "wanted"] (spFits K) := by
  refine F.ok scFall (fun vs H Q E h => ?_) (fun cdv A outer s H vs Q E hr h => ?_)
  · obtain ⟨D, zs, S, ps, y, f, n, rfl, _⟩ := h
    rfl
  · obtain ⟨D, zs, S, ps, y, f, n, rfl, hD, hz, ho, hl, hy, hf, hn0, hn, q⟩ := h
    refine ⟨_, (pss_one (ps_ret (pe_callB (cr_all rfl) (by rfl) Z.all (by decide +kernel) (pa_cons (pe_lc (own := [("first", 2), ("second", 3)]) (g := (gTup K 2 (gCons (gName 2) (gCons (gName 3) gNil)))) (tt := tYes) rfl scFall.nd (pi_list (pv 0)) (blkOk_by (own := [("first", 2), ("second", 3)]) (N := ["pairs", "wanted", "first", "second"]) (sc := defScope sFitsAll) (by decide +kernel)) (fun _ _ _ _ _ => (pg_tup (by rfl) (pgs_cons (pg_name (i := 2) scFall.nd rfl (.inl rfl)) (pgs_cons (pg_name (i := 3) scFall.nd rfl (.inl rfl)) pgs_nil)))) (fun _ _ _ _ _ => pts_nil) (fun _ _ _ _ _ => (pe_cmpR (op_eqDK (K := K) rfl hr.units) (pe_call cY.G hr (by rfl) cY.g cY.kp cY.b .nil pass0 (pa_cons (pv 2) (pa_cons (pv 1) pa_nil))) (pv 3) (nomark _)))) pa_nil)))), ?_⟩
    refine ⟨_, rfl, D, rfl, ⟨_, hD⟩, fun R nR => ?_⟩
    have hlen := hz.len
    refine lc_it (walk_list (xs := zs)) (fun i H' => Same H H' ∧ H' R = some (.lst (((ps.take i).map (fitB f)).map V.bl))) ⟨same_upd nR, upd_same⟩ (fun i H' _ hQ => hQ.1.seq hD) ?_ ?_
    · rintro i u H1 H2 hi ⟨sm, hR⟩ ⟨rfl, hu⟩
      obtain ⟨g, hg, t, x, l, y', l', rfl, ht, hx, _, hy', _⟩ := hz.get hu
      obtain ⟨o1, o2⟩ := ho g (List.mem_of_getElem? hg)
      refine ⟨t, _, rfl, .inl (.inl (sm _ _ ht)), rfl, _, _, rfl, _, _, rfl, rfl, rfl, ?_⟩
      refine ⟨_, rfl, _, rfl, x, l, g.1, y, f, n, rfl, (hx.same sm).rn, hy.same sm, RnOk.sm o1, hf, hn0, hn, fun v H3 s3 hv => ?_⟩
      obtain ⟨lv, nlv, hvs⟩ := hv.s
      refine ⟨_, rfl, rd _, rd _, (RnS.dq hvs).dp, (RnS.dq (hy'.same (sm.trans s3))).dp, rd_shaped _, rd_shaped _, ?_⟩
      refine ⟨_, s3 _ _ hR, ?_, Same.own (sm.trans s3) nR, ?_⟩
      · rw [List.length_map, List.length_map, List.length_take, sizeLine_eq]
        omega
      · rw [upd_same, List.take_succ, hg, List.map_append, List.map_append]
        rfl
    · rintro H1 ⟨sm, hR⟩
      rw [List.take_of_length_le (by rw [← hlen]; exact Nat.le_refl _)] at hR
      refine ⟨R, _, rfl, .inl (.inl hR), ?_⟩
      rw [List.all_map]
      exact q H1 sm
theorem ok_fits {f aC aH aA : Addr} {fd dC dH dA : FuncData} {k : Nat} (F : Fun K "fits" "fits" sFits f fd)
    (cC : Cl P w K mg base k "check_pairs" ["pairs"] (spChkP K) aC dC)
    (cH : Cl P w K mg base k "check_form" ["wanted"] (spChkForm K) aH dH)
    (cA : Cl P w K mg base k "fits_all" ["pairs", "wanted"] (spFits K) aA dA) : FnOk P w K mg base CX0 (k + 1) f fd ["pairs", "wanted"] (spFits K) := by
  refine F.ok scFits (fun vs H Q E h => ?_) (fun cdv A outer s H vs Q E hr h => ?_)
  · obtain ⟨D, zs, S, ps, y, f, n, rfl, _⟩ := h
    rfl
  · obtain ⟨D, zs, S, ps, y, f, n, rfl, hD, hz, ho, hl, hy, hf, hn0, hn, q⟩ := h
    refine ⟨_, (pss_cons (ps_expr (pe_call cC.G hr (by rfl) cC.g cC.kp cC.b .nil pass0 (pa_cons (pv 0) pa_nil)))
      (pss_cons (ps_expr (pe_call cH.G hr (by rfl) cH.g cH.kp cH.b .nil pass0 (pa_cons (pv 1) pa_nil)))
      (pss_one (ps_ret (pe_call cA.G hr (by rfl) cA.g cA.kp cA.b .nil pass0 (pa_cons (pv 0) (pa_cons (pv 1) pa_nil))))))), ?_⟩
    refine ⟨_, rfl, D, zs, S, ps, n, rfl, hD, hz, ho, hl, fun H1 s1 => ?_⟩
    refine ⟨_, rfl, y, f, n, rfl, hy.same s1, hf, fun H2 s2 => ?_⟩
    have s12 := s1.trans s2
    exact ⟨_, rfl, _, rfl, D, zs, S, ps, y, f, n, rfl, s12.seq hD, hz.same s12, ho, hl, hy.same s12, hf, hn0, hn, fun H3 s3 => q H3 (s12.trans s3)⟩
end
end Lw
namespace Lw
open PySem PySem.Spec L2 Lx
theorem scRight : FnScope ["pool", "shape", "samples", "turn", "told", "kept", "at", "later", "due"] ["pool"] (defScope sLRight) := ⟨rfl, rfl, rfl, by decide +kernel, rfl, by decide +kernel, by decide +kernel⟩
structure RgF (mg : Str → Option Value) : Prop where
  range : mg "range" = none
  repr : mg "repr" = none
  len : mg "len" = none
def spRight : Sp := fun vs H Q _ => ∃ (r : Addr) (n : Nat), vs = [.ref r] ∧ PoolAt H r n ∧ n < 800000000 ∧ ∀ H', PoolAt H' r (n + 1000) → Kd r H H' → Q (.bl true) H'
theorem bool_fit (b : Bool) : Fit (.bool b) := fit_b (b := 8) (by decide) (by decide) (by simp [smallB]) (by simp [PyData.depth]) (by simp [PyData.bulk])
theorem ps_small {b : Nat} : ∀ ps : List (Rn × Rn), (∀ q ∈ ps, RnOk b q.1 ∧ RnOk b q.2) → smallB.smallAll b (ps.map pdt) = true
  | [], _ => rfl
  | q :: ps, h => by
    obtain ⟨h1, h2⟩ := h q (List.mem_cons_self ..)
    have ih := ps_small ps fun x hx => h x (List.mem_cons_of_mem _ hx)
    unfold pdt at ih ⊢
    simp only [List.map_cons, smallB.smallAll, smallB, ih, rd_smallB h1, rd_smallB h2, Bool.and_true]
theorem ps_depth : ∀ ps : List (Rn × Rn), PyData.depthAll (ps.map pdt) ≤ 4
  | [] => by simp [PyData.depthAll]
  | q :: ps => by
    have ih := ps_depth ps
    have e1 := rd_depth q.1
    have e2 := rd_depth q.2
    unfold pdt at ih ⊢
    simp only [List.map_cons, PyData.depthAll, PyData.depth]
    omega
theorem ps_bulk : ∀ ps : List (Rn × Rn), (∀ q ∈ ps, q.1.1.length ≤ 8 ∧ q.2.1.length ≤ 8) → PyData.bulkAll (ps.map pdt) ≤ 60 * ps.length
  | [], _ => by simp [PyData.bulkAll]
  | q :: ps, h => by
    obtain ⟨h1, h2⟩ := h q (List.mem_cons_self ..)
    have ih := ps_bulk ps fun x hx => h x (List.mem_cons_of_mem _ hx)
    have e1 := rd_bulk q.1
    have e2 := rd_bulk q.2
    unfold pdt at ih ⊢
    simp only [List.map_cons, PyData.bulkAll, PyData.bulk, List.length_cons]
    omega
theorem ps_fit {ps : List (Rn × Rn)} (h1 : ∀ q ∈ ps, RnOk 412 q.1 ∧ RnOk 412 q.2) (h2 : ∀ q ∈ ps, q.1.1.length ≤ 8 ∧ q.2.1.length ≤ 8) (h3 : ps.length ≤ 10) : Fit (.list (ps.map pdt)) := by
  have e1 := ps_depth ps
  have e2 := ps_bulk ps h2
  refine fit_b (b := 412) (by decide) (by decide) ?_ ?_ ?_
  · simp only [smallB]
    exact ps_small ps h1
  · simp only [PyData.depth]
    omega
  · simp only [PyData.bulk]
    omega
theorem psd_nil (ps : List (Rn × Rn)) : PyData.eqv (.list (ps.map pdt)) (.list []) = decide (ps = []) := by
  cases ps with
  | nil => rfl
  | cons g gs => rfl
theorem psd_lay : ∀ ps : List (Rn × Rn), PyData.canLayAll0 (ps.map pdt) = true
  | [] => rfl
  | q :: ps => by
    have ih := psd_lay ps
    unfold pdt rd at ih ⊢
    simp only [List.map_cons, PyData.canLay0, PyData.canLayAll0, pd_lay, ih, Bool.true_and, Bool.and_true]
theorem psd_shaped {ps : List (Rn × Rn)} : SeqAt.shaped (.list (ps.map pdt)) = true := by
  have e1 := ps_depth ps
  unfold SeqAt.shaped
  simp only [PyData.canLay0, psd_lay, PyData.depth, Bool.true_and, Bool.and_true]
  exact decide_eq_true (by omega)
theorem all_set {f : Fm} {q : Rn × Rn} : ∀ {ps : List (Rn × Rn)} {i : Nat}, ps.all (fitB f) = true → i < ps.length → (ps.set i q).all (fitB f) = fitB f q
  | p :: ps, 0, h, _ => by
    rw [List.all_cons, Bool.and_eq_true] at h
    rw [List.set_cons_zero, List.all_cons, h.2, Bool.and_true]
  | p :: ps, i + 1, h, hi => by
    rw [List.all_cons, Bool.and_eq_true] at h
    rw [List.set_cons_succ, List.all_cons, h.1, Bool.true_and]
    exact all_set h.2 (Nat.lt_of_succ_lt_succ hi)
section
variable {P : Program} {w : World} {K : PySem.W.Frag} {mg : Str → Option Value} {base : Heap}
theorem ok_right {f aD aS aU aF aG aW : Addr} {fd dD dS dU dF dG dW : FuncData} {k : Nat} (F : Fun K "_law_right" "_law_right" sLRight f fd) (Z : RgF mg)
    (cD : Cl P w K mg base k "_law_draw" ["pool", "many"] spDraw aD dD)
    (cS : Cl P w K mg base k "_law_shape" ["pool", "far", "factor"] spShape aS dS)
    (cU : Cl P w K mg base k "_law_far_run" ["pool"] (spFar K) aU dU)
    (cF : Cl P w K mg base k "_law_formed" ["told", "shape"] (spFormed K) aF dF)
    (cG : Cl P w K mg base k "_law_changed" ["pool", "told"] (spChanged K) aG dG)
    (cW : Cl P w K mg base k "fits" ["pairs", "wanted"] (spFits K) aW dW) : FnG P w K mg base CX0 (k + 1) f fd ["pool"] spRight := by
  refine okG F scRight (fun vs H Q E h => ?_) (fun cdv A outer s H vs Q E hr hg h => ?_)
  · obtain ⟨r, n, rfl, _⟩ := h
    rfl
  · obtain ⟨r, n, rfl, hS, hn, q⟩ := h
    refine ⟨_, PSs.nox (pss_cons (ps_set (i := 1) scRight.nd rfl (.inl rfl) (pe_call cS.G hr (by rfl) cS.g cS.kp cS.b .nil pass0 (pa_cons (pv 0) (pa_cons (pe_ix ix_list (pe_lst (pa_cons pe_int (pa_cons (pe_op op_pow pe_int pe_int) pa_nil))) (pe_call cD.G hr (by rfl) cD.g cD.kp cD.b .nil pass0 (pa_cons (pv 0) (pa_cons pe_int pa_nil))) (fun _ _ => rfl)) (pa_cons (pe_op op_pow pe_int pe_int) pa_nil)))))
      (pss_cons (ps_set (i := 2) scRight.nd rfl (.inl rfl) (pe_lst pa_nil))
      (pss_cons (ps_for PassesOwn.never rfl (pi_range1 rfl Z.range (pa_cons (pe_call cD.G hr (by rfl) cD.g cD.kp cD.b .nil pass0 (pa_cons (pv 0) (pa_cons pe_int pa_nil))) pa_nil)) (pg_name (i := 3) scRight.nd rfl (.inl rfl))
          (pss_cons (ps_set (i := 4) scRight.nd rfl (.inl rfl) (pe_call cU.G hr (by rfl) cU.g cU.kp cU.b .nil pass0 (pa_cons (pv 0) pa_nil)))
          (pss_one (ps_expr (pe_bm PySem.F.plainAttrs_list PySem.F.slot_list_append PySem.F.type_list_append mt_append (pv 2) (pa_cons (pe_tup (pa_cons (pv 4) (pa_cons (pe_call cF.G hr (by rfl) cF.g cF.kp cF.b .nil pass0 (pa_cons (pv 4) (pa_cons (pv 1) pa_nil))) pa_nil))) pa_nil))))))
      (pss_cons (ps_set (i := 5) scRight.nd rfl (.inl rfl) (pe_callB (call_reprD hg hr.units) (by rfl) Z.repr (by decide +kernel) (pa_cons (pv 2) pa_nil)))
      (pss_cons (ps_if (PW.pt (pw_or (pt_cmpR op_notBl (pe_call cW.G hr (by rfl) cW.g cW.kp cW.b .nil pass0 (pa_cons (pv 2) (pa_cons (pv 1) pa_nil))) pe_bl (nomark _)) (pw_or1 (pt_cmpR op_ne (pe_callB (call_reprD hg hr.units) (by rfl) Z.repr (by decide +kernel) (pa_cons (pv 2) pa_nil)) (pv 5) (nomark _)))))
          (pss_one (ps_ret pe_bl)) pss_nil)
      (pss_cons (ps_if (pt_cmpR (op_eqD hr.units) (pv 2) (pe_lst pa_nil) (nomark _))
          (pss_one (ps_ret pe_bl)) pss_nil)
      (pss_cons (ps_set (i := 6) scRight.nd rfl (.inl rfl) (pe_call cD.G hr (by rfl) cD.g cD.kp cD.b .nil pass0 (pa_cons (pv 0) (pa_cons (pe_callB call_len_seq (by rfl) Z.len PySem.boot_len (pa_cons (pv 2) pa_nil)) pa_nil))))
      (pss_cons (ps_asg (pe_ix ix_list (pv 2) (pv 6) (fun _ _ => rfl)) (pg_tup (by rfl) (pgs_cons (pg_name (i := 4) scRight.nd rfl (.inl rfl)) (pgs_cons (pg_name (i := 7) scRight.nd rfl (.inl rfl)) pgs_nil))))
      (pss_cons (ps_set (i := 7) scRight.nd rfl (.inl rfl) (pe_call cG.G hr (by rfl) cG.g cG.kp cG.b .nil pass0 (pa_cons (pv 0) (pa_cons (pv 7) pa_nil))))
      (pss_cons (ps_asg (pe_tup (pa_cons (pv 4) (pa_cons (pv 7) pa_nil))) (pg_sub (pv 2) (pv 6) set_list))
      (pss_cons (ps_set (i := 8) scRight.nd rfl (.inl rfl) (pe_cmpR (op_eqD hr.units) (pe_call cF.G hr (by rfl) cF.g cF.kp cF.b .nil pass0 (pa_cons (pv 4) (pa_cons (pv 1) pa_nil))) (pv 7) (nomark _)))
      (pss_one (ps_ret (pe_cmpR op_eq (pe_callB (call_reprD hg hr.units) (by rfl) Z.repr (by decide +kernel) (pa_cons (pe_call cW.G hr (by rfl) cW.g cW.kp cW.b .nil pass0 (pa_cons (pv 2) (pa_cons (pv 1) pa_nil))) pa_nil)) (pe_callB (call_reprD hg hr.units) (by rfl) Z.repr (by decide +kernel) (pa_cons (pv 8) pa_nil)) (nomark _))))))))))))))), ?_⟩
    refine ⟨_, rfl, _, _, rfl, rfl, ⟨by decide, by decide, by decide⟩, by show 2 ≤ sizeLine; decide, fun T nT => ?_⟩
    have s1 := same_upd (o := .lst [.int 3, .int (10 ^ Int.toNat 9)]) nT
    refine ⟨_, rfl, r, n, 2, rfl, hS.same s1, by omega, by decide, by decide, fun c H1 c0 c1 hS1 k1 => ?_⟩
    have hT := hS.ne nT
    have hT1 : H1 T = some (.lst [.int 3, .int (10 ^ Int.toNat 9)]) := k1 _ _ hT upd_same
    have pick : ∃ x : Int, atI [V.int 3, .int (10 ^ Int.toNat 9)] c = some (.int x) ∧ 0 < x ∧ x < big := by
      have : c = 0 ∨ c = 1 := by omega
      rcases this with rfl | rfl <;> exact ⟨_, rfl, by decide +kernel, by decide +kernel⟩
    obtain ⟨far, hfar, f0, f1⟩ := pick
    refine ⟨T, _, c, _, rfl, rfl, .inl (.inl hT1), hfar, _, _, rfl, rfl, ⟨by decide, by decide, by decide⟩, r, _, far, (10 : Int) ^ Int.toNat 9, rfl, hS1, by omega, f0, f1, by decide +kernel, by decide +kernel, fun ps fm H2 nps hps hf hS2 k2 => ?_⟩
    have k02 := ((Kd.of s1).trans k1).trans k2
    replace hS2 : PoolAt H2 r (n + 20) := hS2.mono (by omega)
    clear hS1 k1 k2 hT1 hT hfar nps s1 nT
    dsimp only [gName, tNext, tSeq]
    refine ⟨Nat.zero_le _, fun D nD => ?_⟩
    have sD := same_upd (o := .lst []) nD
    have hDr := hS2.ne nD
    have nD0 : H D = none := k02.freeP hS2 nD
    have hD3 : upd H2 D (.lst []) D = some (.lst []) := upd_same
    have hS3 := hS2.same sD
    have k03 := k02.trans (Kd.of sD)
    have hps3 := sD _ _ hps
    dsimp only [gName, tNext, tSeq]
    generalize upd H2 D (.lst []) = H3 at hD3 hS3 k03 hps3 sD
    have f373 : fm.Ok 412 := hf.mono (by decide)
    refine ⟨_, rfl, r, _, 7, rfl, hS3, by omega, by decide, by decide, fun cnt H4 e0 e1 hS4 k4 => ?_⟩
    have hD4 := k4 _ _ hDr hD3
    have hps4 := k4 _ _ (hS3.neT hps3) hps3
    refine ⟨cnt, rfl, by omega, by omega, ?_⟩
    have inS : (fun b => b = r ∨ b = D) r := .inl rfl
    have nS : ∀ {H' : Hp} {b : Addr} {n' : Nat} {zs : List V}, PoolAt H' r n' → H' D = some (.lst zs) → H' b = none → ¬ (b = r ∨ b = D) := fun hp hd hb z => by
      rcases z with rfl | rfl
      · exact hp.ne hb rfl
      · rw [hd] at hb; cases hb
    have lsts : ∀ {H' : Hp} {n' : Nat} {zs : List V}, PoolAt H' r n' → H' D = some (.lst zs) → Lsts (fun b => b = r ∨ b = D) H' := fun hp hd b hb => by
      rcases hb with rfl | rfl
      · obtain ⟨_, _, _, q, _⟩ := hp
        exact ⟨_, q⟩
      · exact ⟨_, hd⟩
    refine for_range (lo := 0) (n := cnt.toNat) (fun j σ H' => ∃ y3 y4 zs pp, σ = [some (.ref r), some (.ref ps), some (.ref D), y3, y4, none, none, none, none] ∧ H' D = some (.lst zs) ∧ PsA K (fun b => b = r ∨ b = D) H' zs pp ∧ pp.length = j ∧ (∀ q ∈ pp, RnOk 400 q.1 ∧ RnOk 400 q.2) ∧ (∀ q ∈ pp, q.1.1.length ≤ 8 ∧ q.2.1.length ≤ 8) ∧ (∀ q ∈ pp, q.2 = runAfter q.1 fm) ∧ PoolAt H' r (n + 30 + 50 * j) ∧ Kd r H H' ∧ H' ps = some (.tup fm.vs)) ⟨none, none, [], [], rfl, hD4, .nil, rfl, (fun _ h => by cases h), (fun _ h => by cases h), (fun _ h => by cases h), hS4.mono (by omega), k03.trans k4, hps4⟩ ?_ ?_
    · rintro j σ H5 hj ⟨y3, y4, zs, pp, rfl, hD5, hz, hl, ho, hn8, he, hS5, k5, hps5⟩
      refine ⟨_, rfl, r, _, rfl, hS5, by omega, fun x g H6 hnew hgo hgl hS6 k6 => ?_⟩
      have hD6 := k6 _ _ hDr hD5
      have hps6 := k6 _ _ (hS5.neT hps5) hps5
      have hz6 := hz.kx (lsts hS5 hD5) (Kx.kd inS k6)
      obtain ⟨l, nl, hx⟩ := hnew.s
      have nSl := nS hS5 hD5 nl
      refine ⟨_, rfl, .inl ⟨rfl, _, .inl (.inl hD6)⟩, _, rfl, _, rfl, _, rfl, x, l, g, .ref ps, fm, 111, rfl, hx.rn, ⟨ps, rfl, .inl (.inl hps6)⟩, hgo, hf.mono (by decide), by decide, by decide, fun v H7 s7 hv => ?_⟩
      obtain ⟨l2, nl2, hv2⟩ := hv.s
      have nSl2 := nS hS6 hD6 nl2
      refine ⟨by show 2 ≤ sizeLine; decide, fun t nt => ?_⟩
      have s8 := same_upd (o := .tup [x, v]) nt
      have s78 := s7.trans s8
      have hD8 := s78 _ _ hD6
      have hlen := hz.len
      refine ⟨D, zs, .ref t, rfl, rfl, hD8, by rw [sizeLine_eq]; omega, ?_⟩
      have kD : Kx (fun b => b = r ∨ b = D) (upd H7 t (.tup [x, v])) (upd (upd H7 t (.tup [x, v])) D (.lst (zs ++ [.ref t]))) := fun b o hb e => by
        rw [upd_ne (fun z => hb (.inr z))]
        exact e
      have hS8 := hS6.same s78
      have hpr : PrA K (fun b => b = r ∨ b = D) (upd H7 t (.tup [x, v])) (.ref t) (g, runAfter g fm) := ⟨t, x, l, v, l2, rfl, upd_same, hx.same s78, nSl, hv2.same s8, nSl2⟩
      have all := ((hz6.same s78).append (.cons hpr .nil)).kx (lsts hS8 hD8) kD
      have hgo2 : RnOk 400 (runAfter g fm) := (runAfter_ok hgo (hf.mono (by decide))).mono (by decide)
      have hln := runAfter_len g fm
      have hps8 : upd (upd H7 t (.tup [x, v])) D (.lst (zs ++ [.ref t])) ps = some (.tup fm.vs) := by
        rw [upd_ne (ne_of hps5 hD5 (by intro z; cases z))]
        exact s78 _ _ hps6
      have mem : ∀ {Pr : Rn × Rn → Prop}, (∀ q ∈ pp, Pr q) → Pr (g, runAfter g fm) → ∀ q ∈ pp ++ [(g, runAfter g fm)], Pr q := fun h1 h2 q hq => by
        rcases List.mem_append.mp hq with h | h
        · exact h1 q h
        · rw [List.mem_singleton.mp h]; exact h2
      exact ⟨_, _, _, _, rfl, upd_same, all, by rw [List.length_append, hl]; rfl, mem ho ⟨hgo.mono (by decide), hgo2⟩, mem hn8 ⟨hgl, by show (runAfter g fm).1.length ≤ 8; omega⟩, mem he rfl, (hS8.own hDr).mono (by omega), ((k5.trans k6).trans (Kd.of s78)).own nD0, hps8⟩
    · rintro σ H5 ⟨y3, y4, zs, pp, rfl, hD5, hz, hl, ho, hn8, he, hS5, k5, hps5⟩
      have hall : pp.all (fitB fm) = true := List.all_eq_true.mpr fun z hz => by
        unfold fitB
        rw [he z hz]
        exact SeqAt.eqv_refl _ (SeqAt.canLay_of_shaped (rd_shaped _))
      have ho2 : ∀ q ∈ pp, RnOk 412 q.1 ∧ RnOk 412 q.2 := fun z hz => ⟨(ho z hz).1.mono (by decide), (ho z hz).2.mono (by decide)⟩
      have hlp : pp.length ≤ 6 := by omega
      have hfit := ps_fit ho2 hn8 (by omega)
      have hlen := hz.len
      have hdp : ∀ H', Same H5 H' → Dp K H' (.ref D) (.list (pp.map pdt)) := fun H' s => (Dq.lst (s _ _ hD5) (PsA.dq (hz.same s))).dp
      dsimp only [gName, tNext, tSeq]
      refine ⟨_, rfl, _, _, rfl, hdp _ (Same.refl _), hfit, ?_⟩
      dsimp only [gName, tNext, tSeq]
      refine if_by false (fun H1 => Same H5 H1) (fun J hJ => ?_) (fun H6 s6 => ?_)
      · refine ⟨_, rfl, _, rfl, D, zs, _, pp, .ref ps, fm, 412, rfl, .inl (.inl hD5), hz, ho2, by omega, ⟨ps, rfl, .inl (.inl hps5)⟩, f373, by decide, by decide, fun H6 s6 => ?_⟩
        rw [hall]
        refine ⟨_, _, rfl, rfl, _, rfl, iteF ?_⟩
        refine ⟨_, rfl, _, _, rfl, hdp _ s6, hfit, _, rfl, rfl, _, rfl, ?_⟩
        rw [decide_eq_true rfl]
        exact hJ _ s6
      refine iteF ?_
      replace hD6 := s6 _ _ hD5
      replace hz := hz.same s6
      have hS6 := hS5.same s6
      have k6 := k5.trans (Kd.of s6)
      have hps6 := s6 _ _ hps5
      clear hD5 hS5 k5 hps5 hdp s6
      dsimp only [gName, tNext, tSeq]
      refine ⟨_, rfl, Nat.zero_le _, fun e0 ne0 => ?_⟩
      have se := same_upd (o := .lst []) ne0
      refine ⟨.list (pp.map pdt), .list [], (Dq.lst (se _ _ hD6) (PsA.dq (hz.same se))).dp, (Dq.lst upd_same .nil).dp, psd_shaped, by decide, _, rfl, ?_⟩
      rw [psd_nil]
      replace hD6 := se _ _ hD6
      replace hz := hz.same se
      replace hS6 := hS6.same se
      replace k6 := k6.trans (Kd.of se)
      replace hps6 := se _ _ hps6
      generalize upd H6 e0 (.lst []) = H7 at hD6 hz hS6 k6 hps6
      clear se ne0
      by_cases hpp : pp = []
      · rw [decide_eq_true hpp]
        exact iteT (q _ (hS6.mono (by omega)) k6)
      rw [decide_eq_false hpp]
      refine iteF ?_
      have hpos : 0 < pp.length := by
        cases pp with
        | nil => exact absurd rfl hpp
        | cons x xs => exact Nat.succ_pos _
      refine ⟨_, rfl, _, rfl, D, _, rfl, .inl (.inl (.inl hD6)), r, _, (zs.length : Int), rfl, hS6, by omega, by omega, Nat.lt_of_lt_of_le (show (zs.length : Int).natAbs < 2 ^ 10 by omega) (Nat.pow_le_pow_right (by decide) (by decide)), fun v H8 v0 v1 hS8 k8 => ?_⟩
      obtain ⟨sp, rfl⟩ := Int.eq_ofNat_of_zero_le v0
      have hlt : sp < zs.length := by omega
      have hD8 := k8 _ _ hDr hD6
      have hz8 := hz.kx (lsts hS6 hD6) (Kx.kd inS k8)
      have hps8 := k8 _ _ (hS6.neT hps6) hps6
      obtain ⟨g, hgi, t, x, l, y, l', hta, ht, hx, nSl, hy, nSl'⟩ := hz8.get (List.getElem?_eq_getElem hlt)
      have hgm := List.mem_of_getElem? hgi
      dsimp only [gName, tNext, tSeq]
      refine ⟨_, rfl, _, rfl, D, _, _, _, rfl, rfl, .inl (.inl hD8), atI_nat (List.getElem?_eq_getElem hlt), t, _, hta, .inl (.inl ht), rfl, _, _, rfl, _, _, rfl, rfl, ?_⟩
      dsimp only [gName, tNext, tSeq]
      refine ⟨_, rfl, _, rfl, r, _, y, l', g.2, 400, rfl, hS8, by omega, hy, fun z => nSl' (.inl z), (ho g hgm).2, by decide, Nat.le_trans (hn8 g hgm).2 (by decide), fun v2 g2 H9 hnew2 hgo2 hgl2 hS9 k9 => ?_⟩
      have hD9 := k9 _ _ hDr hD8
      have hz9 := hz8.kx (lsts hS8 hD8) (Kx.kd inS k9)
      have hps9 := k9 _ _ (hS8.neT hps8) hps8
      have hx9 := hx.kx (lsts hS8 hD8) (Kx.kd inS k9) nSl
      obtain ⟨l2, nl2, hv2⟩ := hnew2.s
      have nSl2 := nS hS8 hD8 nl2
      have k09 := (k6.trans k8).trans k9
      dsimp only [gName, tNext, tSeq]
      refine ⟨_, rfl, _, rfl, by show 2 ≤ sizeLine; decide, fun t2 nt2 => ?_⟩
      have s10 := same_upd (o := .tup [x, v2]) nt2
      have hD10 := s10 _ _ hD9
      have hix : ixN zs.length (sp : Int) = some sp := by
        unfold ixN
        simp
        omega
      refine ⟨_, rfl, _, rfl, D, _, _, sp, rfl, rfl, hD10, hix, ?_⟩
      have kD : Kx (fun b => b = r ∨ b = D) (upd H9 t2 (.tup [x, v2])) (upd (upd H9 t2 (.tup [x, v2])) D (.lst (zs.set sp (.ref t2)))) := fun b o hb e => by
        rw [upd_ne (fun z => hb (.inr z))]
        exact e
      have hS10 := hS9.same s10
      have hpr : PrA K (fun b => b = r ∨ b = D) (upd H9 t2 (.tup [x, v2])) (.ref t2) (g.1, g2) := ⟨t2, x, l, v2, l2, rfl, upd_same, hx9.same s10, nSl, hv2.same s10, nSl2⟩
      have hL10 := lsts hS10 hD10
      have all := (PsA.set (hz9.same s10) sp hpr).kx hL10 kD
      have hx11 := (hx9.same s10).kx hL10 kD nSl
      have hv11 := (hv2.same s10).kx hL10 kD nSl2
      have hps11 : upd (upd H9 t2 (.tup [x, v2])) D (.lst (zs.set sp (.ref t2))) ps = some (.tup fm.vs) := by
        rw [upd_ne (ne_of hps9 hD9 (by intro z; cases z))]
        exact s10 _ _ hps9
      have hD11 : upd (upd H9 t2 (.tup [x, v2])) D (.lst (zs.set sp (.ref t2))) D = some (.lst (zs.set sp (.ref t2))) := upd_same
      have hS11 : PoolAt (upd (upd H9 t2 (.tup [x, v2])) D (.lst (zs.set sp (.ref t2)))) r _ := hS10.own hDr
      have k11 : Kd r H (upd (upd H9 t2 (.tup [x, v2])) D (.lst (zs.set sp (.ref t2)))) := (k09.trans (Kd.of s10)).own nD0
      dsimp only [gName, tNext, tSeq]
      generalize upd (upd H9 t2 (.tup [x, v2])) D (.lst (zs.set sp (.ref t2))) = H11 at all hx11 hv11 hps11 hD11 hS11 k11
      have og1 := (ho g hgm).1
      refine ⟨_, rfl, _, rfl, x, l, g.1, .ref ps, fm, 400, rfl, hx11.rn, ⟨ps, rfl, .inl (.inl hps11)⟩, og1, hf.mono (by decide), by decide, by decide, fun v3 H12 s12 hv3 => ?_⟩
      obtain ⟨l3, nl3, hv3'⟩ := hv3.s
      refine ⟨_, rfl, rd _, rd _, (RnS.dq hv3').dp, (RnS.dq (hv11.same s12)).dp, rd_shaped _, rd_shaped _, ?_⟩
      have mem : ∀ {Pr : Rn × Rn → Prop}, (∀ q ∈ pp, Pr q) → Pr (g.1, g2) → ∀ q ∈ pp.set sp (g.1, g2), Pr q := fun h1 h2 q hq => by
        rcases List.mem_or_eq_of_mem_set hq with h | h
        · exact h1 q h
        · rw [h]; exact h2
      have hls : (pp.set sp (g.1, g2)).length = pp.length := List.length_set ..
      dsimp only [gName, tNext, tSeq]
      refine ⟨_, rfl, _, rfl, D, zs.set sp (.ref t2), _, pp.set sp (g.1, g2), .ref ps, fm, 412, rfl, .inl (.inl (s12 _ _ hD11)), all.same s12, mem ho2 ⟨og1.mono (by decide), hgo2⟩, by omega, ⟨ps, rfl, .inl (.inl (s12 _ _ hps11))⟩, f373, by decide, by decide, fun H13 s13 => ?_⟩
      rw [all_set hall (by omega)]
      refine ⟨_, .bool _, rfl, .bl _, bool_fit _, _, rfl, _, .bool _, rfl, .bl _, bool_fit _, rfl, ?_⟩
      show Q (V.bl (decide (V.str (PyData.bool (fitB fm (g.1, g2))).shown = V.str (PyData.bool (fitB fm (g.1, g2))).shown))) H13
      rw [decide_eq_true rfl]
      exact q _ ((hS11.same (s12.trans s13)).mono (by omega)) (k11.trans (Kd.of (s12.trans s13)))
end
end Lw
namespace Lw
open PySem PySem.Spec L2 Lx
theorem scLaw : FnScope ["script", "at", "pool", "turn"] ["script"] (defScope sLaw) := ⟨rfl, rfl, rfl, by decide +kernel, rfl, by decide +kernel, by decide +kernel⟩
structure LwF (mg : Str → Option Value) : Prop where
  range : mg "range" = none
  max : mg "max" = none
  min : mg "min" = none
  len : mg "len" = none
def spLaw (K : PySem.W.Frag) : Sp := fun vs H Q _ => ∃ (a : Addr) (ns : List Int), vs = [.ref a] ∧ SqL K H a (ns.map V.int) ∧ ns.length ≤ 63 ∧ ∀ H', Q (.bl true) H'
/-- a callee that runs a repr -/
structure Cg (P : Program) (w : World) (K : PySem.W.Frag) (mg : Str → Option Value) (base : Heap) (k : Nat) (nm : Str) (ps : List Str) (sp : Sp) (f : Addr) (fd : FuncData) : Prop where
  G : FnG P w K mg base CX0 k f fd ps sp
  kp : PySem.W.keepIn K (.ref f) = true
  b : Binds K fd ps []
  g : mg nm = some (.ref f)
theorem sm0 {n : Nat} : Sm n 0 := Nat.two_pow_pos n
theorem sm1 : Sm 2 1 := by
  unfold Sm
  decide
theorem one1_ok {c : Int} (h0 : 0 ≤ c) (h1 : c ≤ 1) : RnOk 111 ([(1, 0)], c) :=
  ⟨gsok_snoc (gs := []) (fun i x hx => by simp at hx) (fun a y e => by simp at e) ⟨(show (1 : Int) ≤ 1 by decide), (show (0 : Int) ≤ 0 by decide), (big_sm (x := 1) (by decide) (by decide)).mono (by decide), sm0⟩, ⟨h0, (big_sm h0 (Int.le_trans h1 (by decide))).mono (by decide)⟩, by show 1 ≤ 1000; decide⟩
section
variable {P : Program} {w : World} {K : PySem.W.Frag} {mg : Str → Option Value} {base : Heap}
theorem ok_law {f aP aT aW : Addr} {fd dP dT dW : FuncData} {k : Nat} (F : Fun K "law" "law" sLaw f fd) (Z : LwF mg)
    (cP : Cl P w K mg base k "_law_pool" ["script", "at"] (spPool K) aP dP)
    (cT : Cg P w K mg base k "_law_right" ["pool"] spRight aT dT)
    (cW : Cl P w K mg base k "fits" ["pairs", "wanted"] (spFits K) aW dW) : FnG P w K mg base CX0 (k + 1) f fd ["script"] (spLaw K) := by
  refine okG F scLaw (fun vs H Q E h => ?_) (fun cdv A outer s H vs Q E hr hg h => ?_)
  · obtain ⟨a, ns, rfl, _⟩ := h
    rfl
  · obtain ⟨a, ns, rfl, hS, hlen, q⟩ := h
    refine ⟨_, PSs.nox (pss_cons (ps_for PassesOwn.never rfl (pi_range1 rfl Z.range (pa_cons (pe_callB (call_max2 rfl) (by rfl) Z.max (by decide +kernel) (pa_cons pe_int (pa_cons (pe_callB (call_min2 rfl) (by rfl) Z.min (by decide +kernel) (pa_cons pe_int (pa_cons (pe_callB call_len_seq (by rfl) Z.len PySem.boot_len (pa_cons (pv 0) pa_nil)) pa_nil))) pa_nil))) pa_nil)) (pg_name (i := 1) scLaw.nd rfl (.inl rfl))
          (pss_cons (ps_set (i := 2) scLaw.nd rfl (.inl rfl) (pe_call cP.G hr (by rfl) cP.g cP.kp cP.b .nil pass0 (pa_cons (pv 0) (pa_cons (pv 1) pa_nil))))
          (pss_one (ps_for PassesOwn.never rfl (pi_range1 rfl Z.range (pa_cons pe_int pa_nil)) (pg_name (i := 3) scLaw.nd rfl (.inl rfl))
              (pss_one (ps_if (pt_not (pt_val (pe_callG cT.G hg hr (by rfl) cT.g cT.kp cT.b .nil pass0 (pa_cons (pv 2) pa_nil))))
                  (pss_one (ps_ret pe_bl)) pss_nil))))))
      (pss_one (ps_ret (pe_and (pe_call cW.G hr (by rfl) cW.g cW.kp cW.b .nil pass0 (pa_cons (pe_lst pa_nil) (pa_cons (pe_tup (pa_cons pe_str (pa_cons pe_int (pa_cons pe_int (pa_cons pe_int pa_nil))))) pa_nil))) (pe_one (pe_not (pe_call cW.G hr (by rfl) cW.g cW.kp cW.b .nil pass0 (pa_cons (pe_lst (pa_cons (pe_tup (pa_cons (pe_tup (pa_cons (pe_lst (pa_cons (pe_tup (pa_cons pe_int (pa_cons pe_int pa_nil))) pa_nil)) (pa_cons pe_int pa_nil))) (pa_cons (pe_tup (pa_cons (pe_lst (pa_cons (pe_tup (pa_cons pe_int (pa_cons pe_int pa_nil))) pa_nil)) (pa_cons pe_int pa_nil))) pa_nil))) pa_nil)) (pa_cons (pe_tup (pa_cons pe_str (pa_cons pe_int (pa_cons pe_int pa_nil)))) pa_nil))))))))), ?_⟩
    refine ⟨_, rfl, a, _, rfl, .inl hS, 8, _, rfl, 1, _, rfl, _, rfl, ?_, ?_, ?_⟩
    · split <;> split <;> omega
    · split <;> split <;> omega
    have hb : (if (if ((ns.map V.int).length : Int) < 8 then ((ns.map V.int).length : Int) else 8) > 1 then (if ((ns.map V.int).length : Int) < 8 then ((ns.map V.int).length : Int) else 8) else 1).toNat ≤ 8 := by split <;> split <;> omega
    generalize (if (if ((ns.map V.int).length : Int) < 8 then ((ns.map V.int).length : Int) else 8) > 1 then (if ((ns.map V.int).length : Int) < 8 then ((ns.map V.int).length : Int) else 8) else 1).toNat = laps at hb
    refine for_range (lo := 0) (n := laps) (fun i σ H' => ∃ y1 y2 y3, σ = [some (.ref a), y1, y2, y3] ∧ Same H H') ⟨none, none, none, rfl, Same.refl _⟩ ?_ ?_
    · rintro i σ H2 hi ⟨y1, y2, y3, rfl, s2⟩
      dsimp only [gName, tNext, tSeq]
      refine ⟨_, rfl, _, rfl, a, ns, i, by rw [Int.zero_add]; rfl, s2.seq hS, hlen, by omega, fun H3 r s3 nr hP => ?_⟩
      have s23 := s2.trans s3
      have nr0 : H r = none := s2.free nr
      dsimp only [gName, tNext, tSeq]
      refine ⟨4, rfl, by decide, by decide, ?_⟩
      refine for_range (lo := 0) (n := 4) (fun j σ H' => ∃ y3, σ = [some (.ref a), some (.int (0 + (i : Int))), some (.ref r), y3] ∧ PoolAt H' r (1000 * j) ∧ Same H H') ⟨y3, rfl, hP, s23⟩ ?_ ?_
      · rintro j σ H4 hj ⟨y3, rfl, hP4, s4⟩
        refine ⟨_, rfl, r, _, rfl, hP4, by omega, fun H5 hP5 k5 => ⟨_, rfl, ?_⟩⟩
        refine iteF ⟨_, rfl, hP5.mono (by omega), fun b o e => k5 b o (ne_of_none e nr0) (s4 b o e)⟩
      · rintro σ H4 ⟨y3, rfl, hP4, s4⟩
        exact ⟨_, _, _, rfl, s4⟩
    · rintro σ H2 ⟨y1, y2, y3, rfl, s2⟩
      refine ⟨Nat.zero_le _, fun D nD => ⟨by show 4 ≤ sizeLine; decide, fun t nt => ?_⟩⟩
      have sa := same_upd (o := .lst []) nD
      have sb := same_upd (o := .tup (Fm.cr 0 0 1).vs) nt
      refine ⟨D, [], fun _ => False, [], .ref t, .cr 0 0 1, 2, rfl, .inl (.inl (sb _ _ upd_same)), .nil, (fun _ h => by cases h), by decide, ⟨t, rfl, .inl (.inl upd_same)⟩, ⟨by decide, by decide, by decide, sm0, sm0, sm1⟩, by decide, by decide, fun H3 s3 => ?_⟩
      refine ⟨true, rfl, ?_⟩
      refine ⟨by show 2 ≤ sizeLine; decide, fun g1 n1 => ⟨by show 1 ≤ sizeLine; decide, fun l1 n2 => ⟨by show 2 ≤ sizeLine; decide, fun r1 n3 => ?_⟩⟩⟩
      refine ⟨by show 2 ≤ sizeLine; decide, fun g2 n4 => ⟨by show 1 ≤ sizeLine; decide, fun l2 n5 => ⟨by show 2 ≤ sizeLine; decide, fun r2 n6 => ?_⟩⟩⟩
      refine ⟨by show 2 ≤ sizeLine; decide, fun t2 n7 => ⟨by show 1 ≤ sizeLine; decide, fun D2 n8 => ⟨by show 3 ≤ sizeLine; decide, fun y n9 => ?_⟩⟩⟩
      have a1 := same_upd (o := .tup [.int 1, .int 0]) n1
      have a2 := same_upd (o := .lst [.ref g1]) n2
      have a3 := same_upd (o := .tup [.ref l1, .int 0]) n3
      have a4 := same_upd (o := .tup [.int 1, .int 0]) n4
      have a5 := same_upd (o := .lst [.ref g2]) n5
      have a6 := same_upd (o := .tup [.ref l2, .int 1]) n6
      have a7 := same_upd (o := .tup [.ref r1, .ref r2]) n7
      have a8 := same_upd (o := .lst [.ref t2]) n8
      have a9 := same_upd (o := .tup (Fm.keep 0 0).vs) n9
      have b8 := a8.trans a9
      have b7 := a7.trans b8
      have b6 := a6.trans b7
      have b5 := a5.trans b6
      have b4 := a4.trans b5
      have b3 := a3.trans b4
      have b2 := a2.trans b3
      refine ⟨D2, [.ref t2], fun _ => False, [(([(1, 0)], 0), ([(1, 0)], 1))], .ref y, .keep 0 0, 111, rfl, .inl (.inl (a9 _ _ upd_same)), .cons ⟨t2, .ref r1, l1, .ref r2, l2, rfl, b8 _ _ upd_same, ⟨r1, [.ref g1], rfl, b4 _ _ upd_same, b3 _ _ upd_same, .cons ⟨g1, rfl, b2 _ _ upd_same⟩ .nil⟩, (fun z => z), ⟨r2, [.ref g2], rfl, b7 _ _ upd_same, b6 _ _ upd_same, .cons ⟨g2, rfl, b5 _ _ upd_same⟩ .nil⟩, fun z => z⟩ .nil, (fun z hz => by rw [List.mem_singleton.mp hz]; exact ⟨one1_ok (by decide) (by decide), one1_ok (by decide) (by decide)⟩), by decide, ⟨y, rfl, .inl (.inl upd_same)⟩, ⟨by decide, by decide, sm0, sm0⟩, by decide, by decide, fun H4 s4 => ?_⟩
      exact ⟨false, rfl, q _⟩
end
end Lw
namespace Lw
open PySem PySem.Spec L2 Lx
theorem sz5 {n : Nat} (h : n ≤ 5) : n ≤ sizeLine := by
  rw [sizeLine_eq]; omega
theorem all_mk {P : Program} {w : World} {K : PySem.W.Frag} {h : Heap} {mg : Str → Option Value} {fa aL fCr fCf fIf fSa fUg fRa fRu fUn fMg fIr fCp fFa fFi fLp fLd fLn fLq fLf fLs fLu fLg fLt fW : Addr} (X : K.In h) (G : h.Ns mainGlobals mg) (hfa : mg "law" = some (.ref fa))
    {ocCr kVCr docCr pmCr cdCr ctCr : Value} {odCr anCr : Option Addr} {oslCr : Array (Option Value)}
    {ocCf kVCf docCf pmCf cdCf ctCf : Value} {odCf anCf : Option Addr} {oslCf : Array (Option Value)}
    {ocIf kVIf docIf pmIf cdIf ctIf : Value} {odIf anIf : Option Addr} {oslIf : Array (Option Value)}
    {ocSa kVSa docSa pmSa cdSa ctSa : Value} {odSa anSa : Option Addr} {oslSa : Array (Option Value)}
    {ocUg kVUg docUg pmUg cdUg ctUg : Value} {odUg anUg : Option Addr} {oslUg : Array (Option Value)}
    {ocRa kVRa docRa pmRa cdRa ctRa : Value} {odRa anRa : Option Addr} {oslRa : Array (Option Value)}
    {ocRu kVRu docRu pmRu cdRu ctRu : Value} {odRu anRu : Option Addr} {oslRu : Array (Option Value)}
    {ocUn kVUn docUn pmUn cdUn ctUn : Value} {odUn anUn : Option Addr} {oslUn : Array (Option Value)}
    {ocMg kVMg docMg pmMg cdMg ctMg : Value} {odMg anMg : Option Addr} {oslMg : Array (Option Value)}
    {ocIr kVIr docIr pmIr cdIr ctIr : Value} {odIr anIr : Option Addr} {oslIr : Array (Option Value)}
    {ocCp kVCp docCp pmCp cdCp ctCp : Value} {odCp anCp : Option Addr} {oslCp : Array (Option Value)}
    {ocFa kVFa docFa pmFa cdFa ctFa : Value} {odFa anFa : Option Addr} {oslFa : Array (Option Value)}
    {ocFi kVFi docFi pmFi cdFi ctFi : Value} {odFi anFi : Option Addr} {oslFi : Array (Option Value)}
    {ocLp kVLp docLp pmLp cdLp ctLp : Value} {odLp anLp : Option Addr} {oslLp : Array (Option Value)}
    {ocLd kVLd docLd pmLd cdLd ctLd : Value} {odLd anLd : Option Addr} {oslLd : Array (Option Value)}
    {ocLn kVLn docLn pmLn cdLn ctLn : Value} {odLn anLn : Option Addr} {oslLn : Array (Option Value)}
    {ocLq kVLq docLq pmLq cdLq ctLq : Value} {odLq anLq : Option Addr} {oslLq : Array (Option Value)}
    {ocLf kVLf docLf pmLf cdLf ctLf : Value} {odLf anLf : Option Addr} {oslLf : Array (Option Value)}
    {ocLs kVLs docLs pmLs cdLs ctLs : Value} {odLs anLs : Option Addr} {oslLs : Array (Option Value)}
    {ocLu kVLu docLu pmLu cdLu ctLu : Value} {odLu anLu : Option Addr} {oslLu : Array (Option Value)}
    {ocLg kVLg docLg pmLg cdLg ctLg : Value} {odLg anLg : Option Addr} {oslLg : Array (Option Value)}
    {ocLt kVLt docLt pmLt cdLt ctLt : Value} {odLt anLt : Option Addr} {oslLt : Array (Option Value)}
    {ocW kVW docW pmW cdW ctW : Value} {odW anW : Option Addr} {oslW : Array (Option Value)}
    {t3 t5 t4 : Tok} {esL : Array DictEntry} {nL : Nat}
    (aCr : PySem.W.nsIn K mainGlobals "check_run" = some (some (.ref fCr)))
    (lCr : K.lookup fCr = some ⟨ocCr, odCr, .func (PySem.W.fnOf "check_run" "check_run" (defArgs sChkRun) (defBody sChkRun) (defScope sChkRun) .none kVCr docCr pmCr anCr cdCr ctCr), oslCr⟩)
    (c_Cr : PySem.W.codeIn K cdCr "check_run" = true)
    (k_Cr : PySem.W.keepIn K (.ref fCr) = true)
    (aCf : PySem.W.nsIn K mainGlobals "check_form" = some (some (.ref fCf)))
    (lCf : K.lookup fCf = some ⟨ocCf, odCf, .func (PySem.W.fnOf "check_form" "check_form" (defArgs sChkForm) (defBody sChkForm) (defScope sChkForm) .none kVCf docCf pmCf anCf cdCf ctCf), oslCf⟩)
    (c_Cf : PySem.W.codeIn K cdCf "check_form" = true)
    (k_Cf : PySem.W.keepIn K (.ref fCf) = true)
    (aIf : PySem.W.nsIn K mainGlobals "is_form" = some (some (.ref fIf)))
    (lIf : K.lookup fIf = some ⟨ocIf, odIf, .func (PySem.W.fnOf "is_form" "is_form" (defArgs sIsForm) (defBody sIsForm) (defScope sIsForm) .none kVIf docIf pmIf anIf cdIf ctIf), oslIf⟩)
    (c_If : PySem.W.codeIn K cdIf "is_form" = true)
    (k_If : PySem.W.keepIn K (.ref fIf) = true)
    (aSa : PySem.W.nsIn K mainGlobals "signs_after" = some (some (.ref fSa)))
    (lSa : K.lookup fSa = some ⟨ocSa, odSa, .func (PySem.W.fnOf "signs_after" "signs_after" (defArgs sSigns) (defBody sSigns) (defScope sSigns) .none kVSa docSa pmSa anSa cdSa ctSa), oslSa⟩)
    (c_Sa : PySem.W.codeIn K cdSa "signs_after" = true)
    (k_Sa : PySem.W.keepIn K (.ref fSa) = true)
    (aUg : PySem.W.nsIn K mainGlobals "units_of_group" = some (some (.ref fUg)))
    (lUg : K.lookup fUg = some ⟨ocUg, odUg, .func (PySem.W.fnOf "units_of_group" "units_of_group" (defArgs sUog) (defBody sUog) (defScope sUog) .none kVUg docUg pmUg anUg cdUg ctUg), oslUg⟩)
    (c_Ug : PySem.W.codeIn K cdUg "units_of_group" = true)
    (k_Ug : PySem.W.keepIn K (.ref fUg) = true)
    (aRa : PySem.W.nsIn K mainGlobals "run_after" = some (some (.ref fRa)))
    (lRa : K.lookup fRa = some ⟨ocRa, odRa, .func (PySem.W.fnOf "run_after" "run_after" (defArgs sRunAft) (defBody sRunAft) (defScope sRunAft) .none kVRa docRa pmRa anRa cdRa ctRa), oslRa⟩)
    (c_Ra : PySem.W.codeIn K cdRa "run_after" = true)
    (k_Ra : PySem.W.keepIn K (.ref fRa) = true)
    (aRu : PySem.W.nsIn K mainGlobals "run_of_units" = some (some (.ref fRu)))
    (lRu : K.lookup fRu = some ⟨ocRu, odRu, .func (PySem.W.fnOf "run_of_units" "run_of_units" (defArgs sRou) (defBody sRou) (defScope sRou) .none kVRu docRu pmRu anRu cdRu ctRu), oslRu⟩)
    (c_Ru : PySem.W.codeIn K cdRu "run_of_units" = true)
    (k_Ru : PySem.W.keepIn K (.ref fRu) = true)
    (aUn : PySem.W.nsIn K mainGlobals "units" = some (some (.ref fUn)))
    (lUn : K.lookup fUn = some ⟨ocUn, odUn, .func (PySem.W.fnOf "units" "units" (defArgs sUnits) (defBody sUnits) (defScope sUnits) .none kVUn docUn pmUn anUn cdUn ctUn), oslUn⟩)
    (c_Un : PySem.W.codeIn K cdUn "units" = true)
    (k_Un : PySem.W.keepIn K (.ref fUn) = true)
    (aMg : PySem.W.nsIn K mainGlobals "merged_groups" = some (some (.ref fMg)))
    (lMg : K.lookup fMg = some ⟨ocMg, odMg, .func (PySem.W.fnOf "merged_groups" "merged_groups" (defArgs sMerged) (defBody sMerged) (defScope sMerged) .none kVMg docMg pmMg anMg cdMg ctMg), oslMg⟩)
    (c_Mg : PySem.W.codeIn K cdMg "merged_groups" = true)
    (k_Mg : PySem.W.keepIn K (.ref fMg) = true)
    (aIr : PySem.W.nsIn K mainGlobals "is_run" = some (some (.ref fIr)))
    (lIr : K.lookup fIr = some ⟨ocIr, odIr, .func (PySem.W.fnOf "is_run" "is_run" (defArgs sIsRun) (defBody sIsRun) (defScope sIsRun) .none kVIr docIr pmIr anIr cdIr ctIr), oslIr⟩)
    (c_Ir : PySem.W.codeIn K cdIr "is_run" = true)
    (k_Ir : PySem.W.keepIn K (.ref fIr) = true)
    (aCp : PySem.W.nsIn K mainGlobals "check_pairs" = some (some (.ref fCp)))
    (lCp : K.lookup fCp = some ⟨ocCp, odCp, .func (PySem.W.fnOf "check_pairs" "check_pairs" (defArgs sCheckPairs) (defBody sCheckPairs) (defScope sCheckPairs) .none kVCp docCp pmCp anCp cdCp ctCp), oslCp⟩)
    (c_Cp : PySem.W.codeIn K cdCp "check_pairs" = true)
    (k_Cp : PySem.W.keepIn K (.ref fCp) = true)
    (aFa : PySem.W.nsIn K mainGlobals "fits_all" = some (some (.ref fFa)))
    (lFa : K.lookup fFa = some ⟨ocFa, odFa, .func (PySem.W.fnOf "fits_all" "fits_all" (defArgs sFitsAll) (defBody sFitsAll) (defScope sFitsAll) .none kVFa docFa pmFa anFa cdFa ctFa), oslFa⟩)
    (c_Fa : PySem.W.codeIn K cdFa "fits_all" = true)
    (k_Fa : PySem.W.keepIn K (.ref fFa) = true)
    (aFi : PySem.W.nsIn K mainGlobals "fits" = some (some (.ref fFi)))
    (lFi : K.lookup fFi = some ⟨ocFi, odFi, .func (PySem.W.fnOf "fits" "fits" (defArgs sFits) (defBody sFits) (defScope sFits) .none kVFi docFi pmFi anFi cdFi ctFi), oslFi⟩)
    (c_Fi : PySem.W.codeIn K cdFi "fits" = true)
    (k_Fi : PySem.W.keepIn K (.ref fFi) = true)
    (aLp : PySem.W.nsIn K mainGlobals "_law_pool" = some (some (.ref fLp)))
    (lLp : K.lookup fLp = some ⟨ocLp, odLp, .func (PySem.W.fnOf "_law_pool" "_law_pool" (defArgs sLPool) (defBody sLPool) (defScope sLPool) .none kVLp docLp pmLp anLp cdLp ctLp), oslLp⟩)
    (c_Lp : PySem.W.codeIn K cdLp "_law_pool" = true)
    (k_Lp : PySem.W.keepIn K (.ref fLp) = true)
    (aLd : PySem.W.nsIn K mainGlobals "_law_draw" = some (some (.ref fLd)))
    (lLd : K.lookup fLd = some ⟨ocLd, odLd, .func (PySem.W.fnOf "_law_draw" "_law_draw" (defArgs sLDraw) (defBody sLDraw) (defScope sLDraw) .none kVLd docLd pmLd anLd cdLd ctLd), oslLd⟩)
    (c_Ld : PySem.W.codeIn K cdLd "_law_draw" = true)
    (k_Ld : PySem.W.keepIn K (.ref fLd) = true)
    (aLn : PySem.W.nsIn K mainGlobals "_law_units" = some (some (.ref fLn)))
    (lLn : K.lookup fLn = some ⟨ocLn, odLn, .func (PySem.W.fnOf "_law_units" "_law_units" (defArgs sLUnits) (defBody sLUnits) (defScope sLUnits) .none kVLn docLn pmLn anLn cdLn ctLn), oslLn⟩)
    (c_Ln : PySem.W.codeIn K cdLn "_law_units" = true)
    (k_Ln : PySem.W.keepIn K (.ref fLn) = true)
    (aLq : PySem.W.nsIn K mainGlobals "_law_put_together" = some (some (.ref fLq)))
    (lLq : K.lookup fLq = some ⟨ocLq, odLq, .func (PySem.W.fnOf "_law_put_together" "_law_put_together" (defArgs sLPutTogether) (defBody sLPutTogether) (defScope sLPutTogether) .none kVLq docLq pmLq anLq cdLq ctLq), oslLq⟩)
    (c_Lq : PySem.W.codeIn K cdLq "_law_put_together" = true)
    (k_Lq : PySem.W.keepIn K (.ref fLq) = true)
    (aLf : PySem.W.nsIn K mainGlobals "_law_formed" = some (some (.ref fLf)))
    (lLf : K.lookup fLf = some ⟨ocLf, odLf, .func (PySem.W.fnOf "_law_formed" "_law_formed" (defArgs sLFormed) (defBody sLFormed) (defScope sLFormed) .none kVLf docLf pmLf anLf cdLf ctLf), oslLf⟩)
    (c_Lf : PySem.W.codeIn K cdLf "_law_formed" = true)
    (k_Lf : PySem.W.keepIn K (.ref fLf) = true)
    (aLs : PySem.W.nsIn K mainGlobals "_law_shape" = some (some (.ref fLs)))
    (lLs : K.lookup fLs = some ⟨ocLs, odLs, .func (PySem.W.fnOf "_law_shape" "_law_shape" (defArgs sLShape) (defBody sLShape) (defScope sLShape) .none kVLs docLs pmLs anLs cdLs ctLs), oslLs⟩)
    (c_Ls : PySem.W.codeIn K cdLs "_law_shape" = true)
    (k_Ls : PySem.W.keepIn K (.ref fLs) = true)
    (aLu : PySem.W.nsIn K mainGlobals "_law_far_run" = some (some (.ref fLu)))
    (lLu : K.lookup fLu = some ⟨ocLu, odLu, .func (PySem.W.fnOf "_law_far_run" "_law_far_run" (defArgs sLFarRun) (defBody sLFarRun) (defScope sLFarRun) .none kVLu docLu pmLu anLu cdLu ctLu), oslLu⟩)
    (c_Lu : PySem.W.codeIn K cdLu "_law_far_run" = true)
    (k_Lu : PySem.W.keepIn K (.ref fLu) = true)
    (aLg : PySem.W.nsIn K mainGlobals "_law_changed" = some (some (.ref fLg)))
    (lLg : K.lookup fLg = some ⟨ocLg, odLg, .func (PySem.W.fnOf "_law_changed" "_law_changed" (defArgs sLChanged) (defBody sLChanged) (defScope sLChanged) .none kVLg docLg pmLg anLg cdLg ctLg), oslLg⟩)
    (c_Lg : PySem.W.codeIn K cdLg "_law_changed" = true)
    (k_Lg : PySem.W.keepIn K (.ref fLg) = true)
    (aLt : PySem.W.nsIn K mainGlobals "_law_right" = some (some (.ref fLt)))
    (lLt : K.lookup fLt = some ⟨ocLt, odLt, .func (PySem.W.fnOf "_law_right" "_law_right" (defArgs sLRight) (defBody sLRight) (defScope sLRight) .none kVLt docLt pmLt anLt cdLt ctLt), oslLt⟩)
    (c_Lt : PySem.W.codeIn K cdLt "_law_right" = true)
    (k_Lt : PySem.W.keepIn K (.ref fLt) = true)
    (aW : PySem.W.nsIn K mainGlobals "law" = some (some (.ref fW)))
    (lW : K.lookup fW = some ⟨ocW, odW, .func (PySem.W.fnOf "law" "law" (defArgs sLaw) (defBody sLaw) (defScope sLaw) .none kVW docW pmW anW cdW ctW), oslW⟩)
    (c_W : PySem.W.codeIn K cdW "law" = true)
    (k_W : PySem.W.keepIn K (.ref fW) = true)
    (z_abs : PySem.W.nsIn K mainGlobals "abs" = some none)
    (z_all : PySem.W.nsIn K mainGlobals "all" = some none)
    (z_enumerate : PySem.W.nsIn K mainGlobals "enumerate" = some none)
    (z_len : PySem.W.nsIn K mainGlobals "len" = some none)
    (z_list : PySem.W.nsIn K mainGlobals "list" = some none)
    (z_max : PySem.W.nsIn K mainGlobals "max" = some none)
    (z_min : PySem.W.nsIn K mainGlobals "min" = some none)
    (z_range : PySem.W.nsIn K mainGlobals "range" = some none)
    (z_repr : PySem.W.nsIn K mainGlobals "repr" = some none)
    (z_sum : PySem.W.nsIn K mainGlobals "sum" = some none)
    (gL : PySem.W.nsIn K mainGlobals "FORM_LENGTHS" = some (some (.ref aL)))
    (hL : K.lookup aL = some ⟨.type "dict", none, .dict esL nL, #[]⟩)
    (kL : PySem.W.KeysLit w.params esL.toList)
    (mL : (aL == sysModules) = false)
    (vL3 : PySem.W.nsIn K aL "keep" = some (some (.int 3 t3)))
    (vL5 : PySem.W.nsIn K aL "lf" = some (some (.int 5 t5)))
    (vL4 : PySem.W.nsIn K aL "cr" = some (some (.int 4 t4))) :
    ∃ fd : FuncData, (∀ (s : Shared) (v : Value), BindsTo s fd ⟨[v], []⟩ [("script", v)]) ∧ ∀ base : Heap, K.In base → base.Ns mainGlobals mg → FnG P w K mg base CX0 8 fa fd ["script"] (spLaw K) := by
  have e := hfa.symm.trans (PySem.W.mg_of X G aW)
  cases e
  have FCr := fun_mk (st := sChkRun) lCr c_Cr k_Cr
  have bCr := FCr.binds (ps := ["run"]) fun _ _ _ _ _ _ us hl => match us, hl with | [_], _ => rfl
  have gCr' := PySem.W.mg_of X G aCr
  have FCf := fun_mk (st := sChkForm) lCf c_Cf k_Cf
  have bCf := FCf.binds (ps := ["wanted"]) fun _ _ _ _ _ _ us hl => match us, hl with | [_], _ => rfl
  have gCf' := PySem.W.mg_of X G aCf
  have FIf := fun_mk (st := sIsForm) lIf c_If k_If
  have bIf := FIf.binds (ps := ["wanted"]) fun _ _ _ _ _ _ us hl => match us, hl with | [_], _ => rfl
  have gIf' := PySem.W.mg_of X G aIf
  have FSa := fun_mk (st := sSigns) lSa c_Sa k_Sa
  have bSa := FSa.binds (ps := ["j", "wanted"]) fun _ _ _ _ _ _ us hl => match us, hl with | [_, _], _ => rfl
  have gSa' := PySem.W.mg_of X G aSa
  have FUg := fun_mk (st := sUog) lUg c_Ug k_Ug
  have bUg := FUg.binds (ps := ["j", "wanted"]) fun _ _ _ _ _ _ us hl => match us, hl with | [_, _], _ => rfl
  have gUg' := PySem.W.mg_of X G aUg
  have FRa := fun_mk (st := sRunAft) lRa c_Ra k_Ra
  have bRa := FRa.binds (ps := ["run", "wanted"]) fun _ _ _ _ _ _ us hl => match us, hl with | [_, _], _ => rfl
  have gRa' := PySem.W.mg_of X G aRa
  have FRu := fun_mk (st := sRou) lRu c_Ru k_Ru
  have bRu := FRu.binds (ps := ["total", "wanted"]) fun _ _ _ _ _ _ us hl => match us, hl with | [_, _], _ => rfl
  have gRu' := PySem.W.mg_of X G aRu
  have FUn := fun_mk (st := sUnits) lUn c_Un k_Un
  have bUn := FUn.binds (ps := ["run", "wanted"]) fun _ _ _ _ _ _ us hl => match us, hl with | [_, _], _ => rfl
  have gUn' := PySem.W.mg_of X G aUn
  have FMg := fun_mk (st := sMerged) lMg c_Mg k_Mg
  have bMg := FMg.binds (ps := ["groups"]) fun _ _ _ _ _ _ us hl => match us, hl with | [_], _ => rfl
  have gMg' := PySem.W.mg_of X G aMg
  have FIr := fun_mk (st := sIsRun) lIr c_Ir k_Ir
  have bIr := FIr.binds (ps := ["run"]) fun _ _ _ _ _ _ us hl => match us, hl with | [_], _ => rfl
  have gIr' := PySem.W.mg_of X G aIr
  have FCp := fun_mk (st := sCheckPairs) lCp c_Cp k_Cp
  have bCp := FCp.binds (ps := ["pairs"]) fun _ _ _ _ _ _ us hl => match us, hl with | [_], _ => rfl
  have gCp' := PySem.W.mg_of X G aCp
  have FFa := fun_mk (st := sFitsAll) lFa c_Fa k_Fa
  have bFa := FFa.binds (ps := ["pairs", "wanted"]) fun _ _ _ _ _ _ us hl => match us, hl with | [_, _], _ => rfl
  have gFa' := PySem.W.mg_of X G aFa
  have FFi := fun_mk (st := sFits) lFi c_Fi k_Fi
  have bFi := FFi.binds (ps := ["pairs", "wanted"]) fun _ _ _ _ _ _ us hl => match us, hl with | [_, _], _ => rfl
  have gFi' := PySem.W.mg_of X G aFi
  have FLp := fun_mk (st := sLPool) lLp c_Lp k_Lp
  have bLp := FLp.binds (ps := ["script", "at"]) fun _ _ _ _ _ _ us hl => match us, hl with | [_, _], _ => rfl
  have gLp' := PySem.W.mg_of X G aLp
  have FLd := fun_mk (st := sLDraw) lLd c_Ld k_Ld
  have bLd := FLd.binds (ps := ["pool", "many"]) fun _ _ _ _ _ _ us hl => match us, hl with | [_, _], _ => rfl
  have gLd' := PySem.W.mg_of X G aLd
  have FLn := fun_mk (st := sLUnits) lLn c_Ln k_Ln
  have bLn := FLn.binds (ps := ["told", "least", "added"]) fun _ _ _ _ _ _ us hl => match us, hl with | [_, _, _], _ => rfl
  have gLn' := PySem.W.mg_of X G aLn
  have FLq := fun_mk (st := sLPutTogether) lLq c_Lq k_Lq
  have bLq := FLq.binds (ps := ["rows"]) fun _ _ _ _ _ _ us hl => match us, hl with | [_], _ => rfl
  have gLq' := PySem.W.mg_of X G aLq
  have FLf := fun_mk (st := sLFormed) lLf c_Lf k_Lf
  have bLf := FLf.binds (ps := ["told", "shape"]) fun _ _ _ _ _ _ us hl => match us, hl with | [_, _], _ => rfl
  have gLf' := PySem.W.mg_of X G aLf
  have FLs := fun_mk (st := sLShape) lLs c_Ls k_Ls
  have bLs := FLs.binds (ps := ["pool", "far", "factor"]) fun _ _ _ _ _ _ us hl => match us, hl with | [_, _, _], _ => rfl
  have gLs' := PySem.W.mg_of X G aLs
  have FLu := fun_mk (st := sLFarRun) lLu c_Lu k_Lu
  have bLu := FLu.binds (ps := ["pool"]) fun _ _ _ _ _ _ us hl => match us, hl with | [_], _ => rfl
  have gLu' := PySem.W.mg_of X G aLu
  have FLg := fun_mk (st := sLChanged) lLg c_Lg k_Lg
  have bLg := FLg.binds (ps := ["pool", "told"]) fun _ _ _ _ _ _ us hl => match us, hl with | [_, _], _ => rfl
  have gLg' := PySem.W.mg_of X G aLg
  have FLt := fun_mk (st := sLRight) lLt c_Lt k_Lt
  have bLt := FLt.binds (ps := ["pool"]) fun _ _ _ _ _ _ us hl => match us, hl with | [_], _ => rfl
  have gLt' := PySem.W.mg_of X G aLt
  have FW := fun_mk (st := sLaw) lW c_W k_W
  have gW' := PySem.W.mg_of X G aW
  have m_abs := PySem.W.mg_none_of X G z_abs
  have m_all := PySem.W.mg_none_of X G z_all
  have m_enumerate := PySem.W.mg_none_of X G z_enumerate
  have m_len := PySem.W.mg_none_of X G z_len
  have m_list := PySem.W.mg_none_of X G z_list
  have m_max := PySem.W.mg_none_of X G z_max
  have m_min := PySem.W.mg_none_of X G z_min
  have m_range := PySem.W.mg_none_of X G z_range
  have m_repr := PySem.W.mg_none_of X G z_repr
  have m_sum := PySem.W.mg_none_of X G z_sum
  have TL : LenT K w mg aL := ⟨PySem.W.mg_of X G gL, ⟨_, _, hL, kL, mL⟩, ⟨_, vL3⟩, ⟨_, vL5⟩, ⟨_, vL4⟩⟩
  refine ⟨PySem.W.fnOf "law" "law" (defArgs sLaw) (defBody sLaw) (defScope sLaw) .none kVW docW pmW anW cdW ctW, fun s v => .of_eq rfl, fun base _ _ => ?_⟩
  have GCr : FnOk P w K mg base CX0 1 fCr _ ["run"] (spChkRun K) := ok_chkRun FCr m_enumerate
  have GIf : FnOk P w K mg base CX0 1 fIf _ ["wanted"] (spIsForm K) := ok_isForm FIf TL m_len m_min
  have GCf : FnOk P w K mg base CX0 2 fCf _ ["wanted"] (spChkForm K) := ok_chkForm FCf GIf k_If bIf gIf'
  have GSa : FnOk P w K mg base CX0 1 fSa _ ["j", "wanted"] (spSigns K) := ok_signs FSa m_max
  have GUg : FnOk P w K mg base CX0 2 fUg _ ["j", "wanted"] (spUog K) := ok_uog FUg GSa k_Sa bSa gSa'
  have GMg : FnOk P w K mg base CX0 1 fMg _ ["groups"] (spMerged K) := ok_merged FMg
  have GRu : FnOk P w K mg base CX0 1 fRu _ ["total", "wanted"] (spRou K) := ok_rou FRu
  have GUn : FnOk P w K mg base CX0 3 fUn _ ["run", "wanted"] (spUnits K) := ok_units FUn GUg k_Ug bUg gUg' m_sum
  have GRa : FnOk P w K mg base CX0 4 fRa _ ["run", "wanted"] (spRunAft K) := ok_runAft FRa (GSa.mono (by decide)) k_Sa bSa gSa' (GMg.mono (by decide)) k_Mg bMg gMg' GUn k_Un bUn gUn' (GRu.mono (by decide)) k_Ru bRu gRu'
  have GLp : FnOk P w K mg base CX0 1 fLp _ ["script", "at"] (spPool K) := ok_pool FLp ⟨m_len, m_max, m_abs⟩
  have GLd : FnOk P w K mg base CX0 1 fLd _ ["pool", "many"] spDraw := ok_draw FLd
  have GLn : FnOk P w K mg base CX0 1 fLn _ ["told", "least", "added"] (spLUnits K) := ok_lunits FLn ⟨m_sum, m_max⟩
  have GLq : FnOk P w K mg base CX0 1 fLq _ ["rows"] (spPut K) := ok_put FLq
  have GLf : FnOk P w K mg base CX0 2 fLf _ ["told", "shape"] (spFormed K) := ok_formed FLf ⟨m_max⟩ ⟨GLq.mono (by decide), k_Lq, bLq, gLq'⟩ ⟨GLn.mono (by decide), k_Ln, bLn, gLn'⟩
  have GIr : FnOk P w K mg base CX0 2 fIr _ ["run"] (spIsRun K) := ok_isrun FIr ⟨GCr.mono (by decide), k_Cr, bCr, gCr'⟩
  have GCp : FnOk P w K mg base CX0 3 fCp _ ["pairs"] (spChkP K) := ok_chkp FCp ⟨m_enumerate⟩ ⟨GIr.mono (by decide), k_Ir, bIr, gIr'⟩
  have GFa : FnOk P w K mg base CX0 5 fFa _ ["pairs", "wanted"] (spFits K) := ok_fall FFa ⟨m_all⟩ ⟨GRa.mono (by decide), k_Ra, bRa, gRa'⟩
  have GFi : FnOk P w K mg base CX0 6 fFi _ ["pairs", "wanted"] (spFits K) := ok_fits FFi ⟨GCp.mono (by decide), k_Cp, bCp, gCp'⟩ ⟨GCf.mono (by decide), k_Cf, bCf, gCf'⟩ ⟨GFa.mono (by decide), k_Fa, bFa, gFa'⟩
  have GLs : FnOk P w K mg base CX0 2 fLs _ ["pool", "far", "factor"] spShape := ok_shape FLs ⟨GLd.mono (by decide), k_Ld, bLd, gLd'⟩
  have GLu : FnOk P w K mg base CX0 2 fLu _ ["pool"] (spFar K) := ok_far FLu ⟨m_range⟩ ⟨GLd.mono (by decide), k_Ld, bLd, gLd'⟩ ⟨GLq.mono (by decide), k_Lq, bLq, gLq'⟩
  have GLg : FnOk P w K mg base CX0 2 fLg _ ["pool", "told"] (spChanged K) := ok_changed FLg ⟨m_list, m_len, m_max⟩ ⟨GLd.mono (by decide), k_Ld, bLd, gLd'⟩ ⟨GLq.mono (by decide), k_Lq, bLq, gLq'⟩
  have GLt : FnG P w K mg base CX0 7 fLt _ ["pool"] spRight := ok_right FLt ⟨m_range, m_repr, m_len⟩ (k := 6) ⟨GLd.mono (by decide), k_Ld, bLd, gLd'⟩ ⟨GLs.mono (by decide), k_Ls, bLs, gLs'⟩ ⟨GLu.mono (by decide), k_Lu, bLu, gLu'⟩ ⟨GLf.mono (by decide), k_Lf, bLf, gLf'⟩ ⟨GLg.mono (by decide), k_Lg, bLg, gLg'⟩ ⟨GFi.mono (by decide), k_Fi, bFi, gFi'⟩
  have GW := ok_law FW ⟨m_range, m_max, m_min, m_len⟩ (k := 7) ⟨GLp.mono (by decide), k_Lp, bLp, gLp'⟩ ⟨GLt, k_Lt, bLt, gLt'⟩ ⟨GFi.mono (by decide), k_Fi, bFi, gFi'⟩
  exact GW
end Lw
open PySem PySem.W PyProof.Rows
set_option maxRecDepth 100000 in
set_option maxHeartbeats 0 in
theorem PySem.Challenge.cw_lineends_k55_fits_for_far_runs_holds : PySem.Challenge.rw_lineends_k55_fits_for_far_runs.Holds := by
  w_on; o_law; k_head; (case hw => w_witness2)
  k_fill
  refine Lx.endG (l := PySem.Challenge.rw_lineends_k55_fits_for_far_runs) (n := 63) (k := 8) (x := "script") (CX := fun _ => L2.CX0) (sp := fun w => Lw.spLaw _) rfl (by decide) rfl ⟨rfl, by decide, by decide⟩ (fun w h Y => PySem.W.kIn_of Y) ?F (fun _ _ a ns hl hS => ⟨a, ns, rfl, hS, hl, fun _ => rfl⟩) (fun _ _ _ _ _ h => h)
  case F =>
    intro w mg fa h KX G hmg
    refine' Lw.all_mk KX G hmg ?aCr ?lCr ?c_Cr ?k_Cr ?aCf ?lCf ?c_Cf ?k_Cf ?aIf ?lIf ?c_If ?k_If ?aSa ?lSa ?c_Sa ?k_Sa ?aUg ?lUg ?c_Ug ?k_Ug ?aRa ?lRa ?c_Ra ?k_Ra ?aRu ?lRu ?c_Ru ?k_Ru ?aUn ?lUn ?c_Un ?k_Un ?aMg ?lMg ?c_Mg ?k_Mg ?aIr ?lIr ?c_Ir ?k_Ir ?aCp ?lCp ?c_Cp ?k_Cp ?aFa ?lFa ?c_Fa ?k_Fa ?aFi ?lFi ?c_Fi ?k_Fi ?aLp ?lLp ?c_Lp ?k_Lp ?aLd ?lLd ?c_Ld ?k_Ld ?aLn ?lLn ?c_Ln ?k_Ln ?aLq ?lLq ?c_Lq ?k_Lq ?aLf ?lLf ?c_Lf ?k_Lf ?aLs ?lLs ?c_Ls ?k_Ls ?aLu ?lLu ?c_Lu ?k_Lu ?aLg ?lLg ?c_Lg ?k_Lg ?aLt ?lLt ?c_Lt ?k_Lt ?aW ?lW ?c_W ?k_W ?z_abs ?z_all ?z_enumerate ?z_len ?z_list ?z_max ?z_min ?z_range ?z_repr ?z_sum ?gL ?hL ?kL ?mL ?vL3 ?vL5 ?vL4
    (case aCr => k_is)
    (case lCr => k_is)
    (case c_Cr => k_is)
    (case k_Cr => k_is)
    (case aCf => k_is)
    (case lCf => k_is)
    (case c_Cf => k_is)
    (case k_Cf => k_is)
    (case aIf => k_is)
    (case lIf => k_is)
    (case c_If => k_is)
    (case k_If => k_is)
    (case aSa => k_is)
    (case lSa => k_is)
    (case c_Sa => k_is)
    (case k_Sa => k_is)
    (case aUg => k_is)
    (case lUg => k_is)
    (case c_Ug => k_is)
    (case k_Ug => k_is)
    (case aRa => k_is)
    (case lRa => k_is)
    (case c_Ra => k_is)
    (case k_Ra => k_is)
    (case aRu => k_is)
    (case lRu => k_is)
    (case c_Ru => k_is)
    (case k_Ru => k_is)
    (case aUn => k_is)
    (case lUn => k_is)
    (case c_Un => k_is)
    (case k_Un => k_is)
    (case aMg => k_is)
    (case lMg => k_is)
    (case c_Mg => k_is)
    (case k_Mg => k_is)
    (case aIr => k_is)
    (case lIr => k_is)
    (case c_Ir => k_is)
    (case k_Ir => k_is)
    (case aCp => k_is)
    (case lCp => k_is)
    (case c_Cp => k_is)
    (case k_Cp => k_is)
    (case aFa => k_is)
    (case lFa => k_is)
    (case c_Fa => k_is)
    (case k_Fa => k_is)
    (case aFi => k_is)
    (case lFi => k_is)
    (case c_Fi => k_is)
    (case k_Fi => k_is)
    (case aLp => k_is)
    (case lLp => k_is)
    (case c_Lp => k_is)
    (case k_Lp => k_is)
    (case aLd => k_is)
    (case lLd => k_is)
    (case c_Ld => k_is)
    (case k_Ld => k_is)
    (case aLn => k_is)
    (case lLn => k_is)
    (case c_Ln => k_is)
    (case k_Ln => k_is)
    (case aLq => k_is)
    (case lLq => k_is)
    (case c_Lq => k_is)
    (case k_Lq => k_is)
    (case aLf => k_is)
    (case lLf => k_is)
    (case c_Lf => k_is)
    (case k_Lf => k_is)
    (case aLs => k_is)
    (case lLs => k_is)
    (case c_Ls => k_is)
    (case k_Ls => k_is)
    (case aLu => k_is)
    (case lLu => k_is)
    (case c_Lu => k_is)
    (case k_Lu => k_is)
    (case aLg => k_is)
    (case lLg => k_is)
    (case c_Lg => k_is)
    (case k_Lg => k_is)
    (case aLt => k_is)
    (case lLt => k_is)
    (case c_Lt => k_is)
    (case k_Lt => k_is)
    (case aW => k_is)
    (case lW => k_is)
    (case c_W => k_is)
    (case k_W => k_is)
    (case z_abs => k_is)
    (case z_all => k_is)
    (case z_enumerate => k_is)
    (case z_len => k_is)
    (case z_list => k_is)
    (case z_max => k_is)
    (case z_min => k_is)
    (case z_range => k_is)
    (case z_repr => k_is)
    (case z_sum => k_is)
    (case gL => k_is)
    (case hL => k_is)
    (case kL => exact ⟨⟨_, _, rfl, rfl⟩, ⟨_, _, rfl, rfl⟩, ⟨_, _, rfl, rfl⟩, trivial⟩)
    (case mL => decide)
    (case vL3 => k_is)
    (case vL5 => k_is)
    (case vL4 => k_is)
