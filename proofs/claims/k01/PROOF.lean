import PyProof.Rows.All
import Wide.All
import OpenK.AllK
import Wide.FinOn
import KE.KFromBytes
import KE.KExcSuper
import HandS.Base
import HandS.Call
import HandS.Exc
import HandS.Ends
import HandS.Words
import KE.KExcIs
import HandS.ForExc
import HandS.ForMost
import HandS.IsInst
import PyProof.StrOps2
import PyProof.ReprBulk
import HandS.Wide
import HandS.WideMore
import PySem.Challenge.RW_lineends_k01_errors_and_their_values
set_option Elab.async false
set_option linter.all false
set_option maxRecDepth 100000
set_option maxHeartbeats 4000000
/-! An own error class over ValueError, called by position or by keyword: what it leaves. -/
namespace Lx
open PySem PySem.HandSPX
open PySem.W (Looks)
section
variable {M : Model} {prog : Program} {w : World} {A : Around} {E : Value → Shared → Prop} {R : Result → Shared → Prop}
variable {h : Heap} {gn : Array GenState} {dr : Drawn} {tk : Nat} {os : OsState}
variable {nm q : Str} {C N : Addr} {bs bm bmB : List Value} {hd : Bool} {sn : List Str} {sub : List Value} {ab : Bool} {col : Option Bool} {dd : Option Addr} {k0 k1 k2 k3 k5 : Option Value} {B nid iid : String}
/-- the maker's own check, with keywords -/
theorem newCheck (F : ExcBaseFacts B nid iid bmB) (hT : ∀ Y : String, bm.contains (.type Y) = bmB.contains (.type Y)) {pos : List Value} {kw : List (Str × Value)} {Q : Unit → Shared → Prop}
    (hC : h.get? C = some (excClassObj nm q C N bs bm hd sn sub ab col dd k0 k1 k2 k3 k5 nid)) (hq : Q () ⟨h, gn, dr, tk, os⟩) :
    wpAny M A (checkBuiltinCall nid ⟨.ref C :: pos, kw⟩) Q E ⟨h, gn, dr, tk, os⟩ := by
  have c0 : (Value.ref C :: bm).contains (.type B) = true := by
    rw [List.contains_cons, hT, F.hasB, Bool.or_true]
  have c1 := F.noStar
  simp only [checkBuiltinCall, F.newKind, F.newSplit, F.newRow]
  repeat (first
    | refine wpAny_loadPart_at hC ?_
    | (refine wpAny_isSubtype_exc hC ?_; rw [c0])
    | refine wpAny_staticBase_exc hC ?_
    | refine wpAny_madeBy_exc hC ?_
    | simp only [bne_self_eq_false, Bool.false_eq_true, if_false]
    | wp_step)
  exact hq
/-- the maker: the arguments by position alone are laid -/
theorem newMakes (F : ExcBaseFacts B nid iid bmB) (hT : ∀ Y : String, bm.contains (.type Y) = bmB.contains (.type Y)) {pos : List Value} {kw : List (Str × Value)}
    (hC : h.get? C = some (excClassObj nm q C N bs bm hd sn sub ab col dd k0 k1 k2 k3 k5 nid)) (hl : pos.length ≤ sizeLine)
    (hq : R (.ok (.ret (.ref (h.objs.size + 1)))) ⟨(h.push (W.kdv_tup pos)).push (excO C h.objs.size), gn, dr, tk, os⟩) :
    codeAny (model prog w) A (.builtin nid ⟨.ref C :: pos, kw⟩) R ⟨h, gn, dr, tk, os⟩ := by
  have e1 := F.ends
  have c0 : (Value.ref C :: bm).contains (.type B) = true := by
    rw [List.contains_cons, hT, F.hasB, Bool.or_true]
  have c1 : (Value.ref C :: bm).contains (.type "AttributeError") = false := by
    rw [List.contains_cons, hT, F.noAttr]; rfl
  have c2 : (Value.ref C :: bm).contains (.type "NameError") = false := by
    rw [List.contains_cons, hT, F.noName]; rfl
  refine codeAny_builtinAt F.entry ?_
  unfold Builtin.«BaseException.__new__»
  refine wpAt_bind ?_
  show wpAt _ _ _ (stack >>= _) _ _ _
  refine wpAt_bind (wpAt_stack fun p below => wpAt_of_wpAny ?_)
  wp_walk
  refine wpAt_of_wpAny ?_
  rw [F.owner]
  repeat (first
    | with_reducible refine wpAny_madeHere_exc F.canon hC ?_
    | with_reducible refine wpAny_loadPart_at hC ?_
    | (with_reducible refine wpAny_isSubtype_exc hC ?_; first | rw [c0] | rw [c1] | rw [c2])
    | wp_step)
  show R _ _
  rw [Heap.size_push]
  exact hq
/-- the class's call: the maker, then the class's own __init__ -/
theorem typeCalls (F : ExcBaseFacts B nid iid bmB) (hT : ∀ Y : String, bm.contains (.type Y) = bmB.contains (.type Y)) {pos : List Value} {kw : List (Str × Value)} {fI : Addr} {Q : Fin → Shared → Prop}
    (hC : h.get? C = some (excClassObj nm q C N bs bm hd sn sub ab col dd k0 k1 k2 k3 k5 nid))
    (hi : Looks (model prog w) h (typeLookup (.ref C) "__init__") (some (.ref fI))) (hb : ∀ self, Looks (model prog w) h (bindSpecial (.ref fI) self) (.ref fI, [self])) (hl : pos.length ≤ sizeLine)
    (hq : codeAny (model prog w) A (.call (.ref fI) ⟨.ref (h.objs.size + 1) :: pos, kw⟩)
      (fun r s' => match r with | .ok (.ret v) => v = .none ∧ Q (.done (.ret (.ref (h.objs.size + 1)))) s' | .ok _ => False | .error e => E e s')
      ⟨(h.push (W.kdv_tup pos)).push (excO C h.objs.size), gn, dr, tk, os⟩) :
    wpAny (model prog w) A (Builtin.«type.__call__» ⟨.ref C :: pos, kw⟩) Q E ⟨h, gn, dr, tk, os⟩ := by
  repeat (first | with_reducible refine wpAny_loadPart_at hC ?_ | with_reducible refine wpAny_madeBy_exc hC ?_ | wp_step)
  refine codeAny_call_builtin_code (Code.quiet_builtin _ F.quiet) (newCheck F hT hC ?_)
  refine newMakes F hT hC hl ?_
  show wpAny _ _ _ _ _ _
  have kp : ∀ b o, h.get? b = some o → ((h.push (W.kdv_tup pos)).push (excO C h.objs.size)).get? b = some o := fun b o e => Heap.get?_push_of_some _ (Heap.get?_push_of_some _ e)
  have hC1 := kp _ _ hC
  have hg : ((h.push (W.kdv_tup pos)).push (excO C h.objs.size)).get? (h.objs.size + 1) = some (excO C h.objs.size) := by heap_get
  have hs : (Value.ref C :: bm).contains (.ref C) = true := by simp
  have i1 := hi.keeps kp
  have b1 := (hb (.ref (h.objs.size + 1))).keeps kp
  unfold isInstance
  repeat (first | with_reducible refine wpAny_loadPart_at hg ?_ | (with_reducible refine wpAny_isSubtype_exc hC1 ?_; rw [hs]) | wp_step)
  show wpAny _ _ (typeLookup (.ref C) _) _ _ _
  refine i1.at ?_
  refine wpAny_holding (wpAny_bind (b1.at ?_))
  refine wpAny_bind (wpAny_call (codeAny_mono hq fun r s' z => ?_))
  rcases r with e | (v | _ | _ | _) <;> first | exact z | exact z.elim | skip
  obtain ⟨rfl, z⟩ := z
  first
    | exact wpAny_pure (wpAny_pure z)
    | (wp_walk; exact z)
end
end Lx
namespace Lx
open PySem PySem.HandSPX
open PySem.W (Looks)
open L2 (defArgs defBody defScope)
/-! ### the text of an error's __init__ -/
def inA (a b : Pos) : Arguments := { posonlyargs := [], args := [{ arg := "self", annotation := none, pos := a }, { arg := "value", annotation := none, pos := b }], vararg := none, kwonlyargs := [], kw_defaults := [], kwarg := none, defaults := [] }
def inB (msg : Str) (a b c d e f g i j k : Pos) : List Stmt :=
  [.Expr (.Call (.Attribute (.Call (.Name "super" a) [] [] b) "__init__" c) [.Constant (.str msg) 0 d] [] e) f, .Assign [.Attribute (.Name "self" g) "value" i] (.Name "value" j) k]
def SupCall (msg : Str) (a b c d e : Pos) : Prop := ∀ env : Env, ∃ pl : Sem Bool, eval (.Call (.Attribute (.Call (.Name "super" a) [] [] b) "__init__" c) [.Constant (.str msg) 0 d] [] e) env = (do
  let ov ← attributeBase (.Call (.Name "super" a) [] [] b) "__init__" env (eval (.Call (.Name "super" a) [] [] b) env)
  standAt c.atName
  let (f, first) ← holding [ov] (getMethod ov "__init__" pl)
  callWith e f first (backTo e (starEach [.Constant (.str msg) 0 d] env)) [])
def inS : Scope := { kind := .function, names := [(PySem.Str.ofString "self", .local), (PySem.Str.ofString "value", .local), (PySem.Str.ofString "__class__", .free), (PySem.Str.ofString "super", .globalImplicit)], isGenerator := false, isCoroutine := false, more := [] }
/-- what the written part says of the errors' own base, at L -/
structure LineC (K : PySem.W.Frag) (mg : Str → Option Value) (L : Addr) : Prop where
  gL : mg "LineError" = some (.ref L)
  cls : ∃ n q N bs sn sub ab col dd k0 k1 k2 k3 k5, K.lookup L = some (excClassObj n q L N bs HandSPX.veTail true sn sub ab col dd k0 k1 k2 k3 k5 "ValueError.__new__")
  ini : PySem.W.findIn K (.ref L) "__init__" = some (some (.builtin "ValueError.__init__"))
  ty : PySem.W.typeIn K (.ref L) = some (.type "type")
  exB : PySem.W.subIn K (.ref L) (.type "BaseException") = some true
  sup : PySem.W.nsIn K mainGlobals "super" = some none
  opq : PySem.W.nsIn K cStatics "thirdparty.any" = some none
  sp : PySem.W.specialIn K (.builtin "object.__class__") "__get__" = some (some (.builtin "getset_descriptor.__get__"))
  tk : PySem.W.takesIn K (.builtin "object.__class__") = some true
/-- what the written part says of an error class at C, whose base stands at L; st is the text of its __init__, qual that def's long name, nm the class's name -/
structure ErrC (K : PySem.W.Frag) (file : Str) (mg : Str → Option Value) (L : Addr) (nm qual : Str) (st : Stmt) (C : Addr) : Prop where
  gC : mg nm = some (.ref C)
  cls : ∃ n q N bs sn sub ab col dd k0 k1 k2 k3 k5, K.lookup C = some (excClassObj n q C N bs (.ref L :: HandSPX.veTail) true sn sub ab col dd k0 k1 k2 k3 k5 "ValueError.__new__")
  sa : PySem.W.findIn K (.ref C) "__setattr__" = some (some (.builtin "object.__setattr__"))
  ga : PySem.W.findIn K (.ref C) "__getattribute__" = some (some (.builtin "BaseException.__getattribute__"))
  gg : PySem.W.findIn K (.ref C) "__getattr__" = some none
  ca : PySem.W.findIn K (.ref C) "__class__" = some (some (.builtin "object.__class__"))
  nv : PySem.W.findIn K (.ref C) "value" = some none
  ty : PySem.W.typeIn K (.ref C) = some (.type "type")
  kp : PySem.W.keepIn K (.ref C) = true
  init : ∃ fI : Addr, PySem.W.findIn K (.ref C) "__init__" = some (some (.ref fI)) ∧ PySem.W.typeIn K (.ref fI) = some (.type "function") ∧
    ∃ (oc : Value) (od : Option Addr) (doc pm : Value) (an : Option Addr) (cc cda : Addr) (ct : Value) (osl : Array (Option Value)),
      K.lookup fI = some ⟨oc, od, .func (PySem.W.fnX "__init__" qual (defArgs st) (defBody st) (defScope st) [("__class__", cc)] .none .none doc pm an (.ref cda) ct), osl⟩ ∧ PySem.W.codeIn K (.ref cda) qual = true ∧
      (∃ (cl : Value) (cd : Option Addr) (vs : Array Value) (cs : Array (Option Value)) (tf : Tok), K.lookup cda = some ⟨cl, cd, .fields vs, cs⟩ ∧ vs[2]? = some (.str file tf)) ∧
      ∃ (cl : Value) (cd : Option Addr) (cs : Array (Option Value)), K.lookup cc = some ⟨cl, cd, .cell (some (.ref C)), cs⟩
  tA : ∃ a b, defArgs st = inA a b
  tB : ∃ msg a b c d e f g i j k, defBody st = inB msg a b c d e f g i j k ∧ SupCall msg a b c d e
  tS : defScope st = inS
theorem LineC.along {K : PySem.W.Frag} {mg : Str → Option Value} {L : Addr} (T : LineC K mg L) : PySem.W.alongIn K "__init__" (.ref L :: HandSPX.veTail) = some (some (.builtin "ValueError.__init__")) := by
  obtain ⟨n, q, N, bs, sn, sub, ab, col, dd, k0, k1, k2, k3, k5, hL⟩ := T.cls
  have e := T.ini
  simp only [PySem.W.findIn, hL] at e
  exact e
/-- the chain of classes above C -/
theorem ErrC.chain {K : PySem.W.Frag} {file : Str} {mg : Str → Option Value} {L C : Addr} {nm qual : Str} {st : Stmt} (T : ErrC K file mg L nm qual st C) : ∃ cd : ClassData, PySem.W.clsIn K C = some cd ∧ cd.mro = .ref C :: .ref L :: HandSPX.veTail ∧ cd.hasDict = true := by
  obtain ⟨n, q, N, bs, sn, sub, ab, col, dd, k0, k1, k2, k3, k5, hC⟩ := T.cls
  exact ⟨{ name := n, bases := bs, mro := .ref C :: .ref L :: HandSPX.veTail, ns := N, qualname := q, hasDict := true, slotNames := sn, subclasses := sub, abstract := ab, collection := col, hasDel := false }, by unfold PySem.W.clsIn; rw [hC] <;> rfl, rfl, rfl⟩
theorem ErrC.under {K : PySem.W.Frag} {file : Str} {mg : Str → Option Value} {L C : Addr} {nm qual : Str} {st : Stmt} (T : ErrC K file mg L nm qual st C) (b : Value) : PySem.W.mroIn K C b = some ((Value.ref C :: .ref L :: HandSPX.veTail).contains b) := by
  obtain ⟨cd, e1, e2, _⟩ := T.chain
  unfold PySem.W.mroIn
  rw [e1, Option.bind_some, e2]
  rfl
section
variable {prog : Program} {w : World} {A : Around} {E : Value → Shared → Prop} {R : Result → Shared → Prop} {M : Model}
variable {h : Heap} {gn : Array GenState} {dr : Drawn} {tk : Nat} {os : OsState}
variable {nm q : Str} {C N : Addr} {bs bm bmB : List Value} {hdt : Bool} {sn : List Str} {sub : List Value} {ab : Bool} {col : Option Bool} {dd : Option Addr} {k0 k1 k2 k3 k5 : Option Value} {B nid iid : String}
theorem tcCheck {pos : List Value} {kw : List (Str × Value)} {Q : Unit → Shared → Prop} (hC : h.get? C = some (excClassObj nm q C N bs bm hdt sn sub ab col dd k0 k1 k2 k3 k5 nid)) (hq : Q () ⟨h, gn, dr, tk, os⟩) :
    wpAny M A (checkBuiltinCall "type.__call__" ⟨.ref C :: pos, kw⟩) Q E ⟨h, gn, dr, tk, os⟩ := by
  have f3 := tc_sub
  have hT : (⟨h, gn, dr, tk, os⟩ : Shared).TypeIs (.ref C) "type" := ⟨_, hC, rfl⟩
  simp only [checkBuiltinCall, tc_kind, tc_split]
  repeat (any_goals (first | assumption | with_reducible refine wpAny_loadPart_at hC ?_ | with_reducible refine wpAny_onRaise ?_ | with_reducible refine wpAny_map ?_ | wp_step))
theorem clsCalls (F : ExcBaseFacts B nid iid bmB) (hT : ∀ Y : String, bm.contains (.type Y) = bmB.contains (.type Y)) {pos : List Value} {kw : List (Str × Value)} {fI : Addr}
    (hC : h.get? C = some (excClassObj nm q C N bs bm hdt sn sub ab col dd k0 k1 k2 k3 k5 nid))
    (hi : Looks (model prog w) h (typeLookup (.ref C) "__init__") (some (.ref fI))) (hb : ∀ self, Looks (model prog w) h (bindSpecial (.ref fI) self) (.ref fI, [self])) (hl : pos.length ≤ sizeLine)
    (hq : codeAny (model prog w) (A.under (.builtin "type.__call__" ⟨.ref C :: pos, kw⟩)) (.call (.ref fI) ⟨.ref (h.objs.size + 1) :: pos, kw⟩) (W.InitBack (h.objs.size + 1) R)
      ⟨(h.push (W.kdv_tup pos)).push (excO C h.objs.size), gn, dr, tk, os⟩) :
    codeAny (model prog w) A (.call (.ref C) ⟨pos, kw⟩) R ⟨h, gn, dr, tk, os⟩ := by
  have f1 := tc_lookup
  have f2 := tc_bind (.ref C)
  have hTy : (⟨h, gn, dr, tk, os⟩ : Shared).TypeIs (.ref C) "type" := ⟨_, hC, rfl⟩
  refine codeAny_of_tree ?_
  show wpAny _ _ (callAny (.ref C) _) _ _ _
  repeat (any_goals (first | assumption | with_reducible refine wpAny_loadPart_at hC ?_ | wp_step))
  refine ⟨rfl, ?_⟩
  refine codeAny_call_builtin_at (Code.quiet_builtin _ (by decide +kernel)) entry_typeCall (tcCheck hC (typeCalls F hT hC hi hb hl ?_))
  refine codeAny_mono hq fun r s' z => ?_
  rcases r with e | (v | _ | _ | _) <;> exact z
end
end Lx
namespace Lx
open PySem PySem.HandSPX
open PySem.W (Looks)
open L2 (defArgs defBody defScope)
/-- what __init__ leaves of a fresh error at x -/
structure InitLeft (h h' : Heap) (x C dx t1 : Addr) (v : Value) : Prop where
  keep : ∀ b o, b ≠ x → h.get? b = some o → h'.get? b = some o
  obj : h'.get? x = some { cls := .ref C, dict := some dx, data := .fields #[.ref t1, .none, .none, .none, .bool false, .none] }
  big : h.objs.size ≤ dx
  ne : dx ≠ x
  ns : h'.Ns1 dx (fun y => if y = "value" then some v else none)
/-- the two ways in which the value is handed over -/
inductive Hands (v : Value) : List Value → List (Str × Value) → Prop where
  | pos : Hands v [v] []
  | kw : Hands v [] [("value", v)]
section
variable {prog : Program} {w : World} {A : Around} {E : Value → Shared → Prop} {R : Result → Shared → Prop} {M : Model} {s : Shared}
variable {K : PySem.W.Frag} {mg mb : Str → Option Value} {nm qual : Str} {st : Stmt} {C L : Addr}
theorem initRuns (TL : LineC K mg L) (T : ErrC K prog.main.file mg L nm qual st C) {x t0 fI : Addr} {v : Value} {ps : List Value} {kw : List (Str × Value)} (hv : Hands v ps kw) (htop : (prog.main.scope.names.lookup ("super" : Str)).isSome = false)
    (hfI : PySem.W.findIn K (.ref C) "__init__" = some (some (.ref fI))) (X : K.In s.heap) (G : s.heap.Ns mainGlobals mg) (gs : mg "super" = none) (B : s.heap.Ns builtinsNs mb) (bs : mb "super" = some (.type "super"))
    (hlim : s.heap.NoLimit) (hnx : K.lookup x = none) (hx : s.heap.get? x = some (excO C t0)) (hroom : A.depth < recursionLimit)
    (hq : ∀ h' tk dx t1, InitLeft s.heap h' x C dx t1 v → R (.ok (.ret .none)) { s with heap := h', toks := tk }) :
    codeAny (model prog w) A (.call (.ref fI) ⟨.ref x :: ps, kw⟩) R s := by
  obtain ⟨n, q, N, bss, sn, sub, ab, col, dd, k0, k1, k2, k3, k5, hC⟩ := T.cls
  obtain ⟨bm, ebm⟩ : ∃ bm, bm = (Value.ref L :: HandSPX.veTail) := ⟨_, rfl⟩
  rw [← ebm] at hC
  have hbm : refsVE bm = true := by rw [ebm]; rfl
  have hal := TL.along
  rw [← ebm] at hal
  obtain ⟨f2, e2, tI, oc, od, doc, pm, an, cc, cda, ct, osl, ho, hcd, ⟨cl, cd, vs, cs, tf, hco, hvs⟩, cl2, cd2, cs2, hce⟩ := T.init
  rw [hfI] at e2
  obtain rfl : fI = f2 := Value.ref.inj (Option.some.inj (Option.some.inj e2))
  obtain ⟨a1, a2, eA⟩ := T.tA
  obtain ⟨msg, p0, p1, p2, p3, p4, p5, q1, q2, q3, q4, eB, hsc⟩ := T.tB
  rw [eA, eB, T.tS] at ho
  have hcl : PySem.W.clsIn K C = some { name := n, bases := bss, mro := .ref C :: bm, ns := N, qualname := q, hasDict := true, slotNames := sn, subclasses := sub, abstract := ab, collection := col, hasDel := false } := by
    unfold PySem.W.clsIn; rw [hC] <;> rfl
  have hcC : (Value.ref C :: bm).contains (.ref C) = true := by simp
  have hbase : ∀ Y : String, bm.contains (.type Y) = HandSPX.veTail.contains (.type Y) := fun Y => refsVE_contains Y bm hbm
  refine ks_codeAny_call_defAt (fd := PySem.W.fnX "__init__" qual (inA a1 a2) (inB msg p0 p1 p2 p3 p4 p5 q1 q2 q3 q4) inS [("__class__", cc)] .none .none doc pm an (.ref cda) ct) (body := inB msg p0 p1 p2 p3 p4 p5 q1 q2 q3 q4)
    (binds := [("self", .ref x), ("value", v)]) hroom (X _ _ ho) rfl hlim (PySem.W.codeRec_of X hcd) rfl ?_ (show ∀ y ∈ inS.names, y.2 ≠ .cell by decide) (by intro y hy; simp only [List.mem_cons, List.not_mem_nil, or_false] at hy; rcases hy with rfl | rfl <;> rfl) (fun h1 hns hk => ?_) rfl rfl rfl
  · cases hv with
    | pos => exact .of_eq (by first | rfl | with_unfolding_all rfl)
    | kw => exact .of_eq (by first | rfl | with_unfolding_all rfl)
  have X1 : K.In h1 := X.keeps hk
  have hx1 := hk _ _ hx
  have hC1 := X1 _ _ hC
  have hxC : x ≠ C := fun z => by
    rw [z] at hx1
    rw [hC1] at hx1
    cases hx1
  have hL : s.heap.objs.size ≠ x := Nat.ne_of_gt (Heap.lt_size hx)
  obtain ⟨pl, hpl⟩ := hsc (callEnv (PySem.W.fnX "__init__" qual (inA a1 a2) (inB msg p0 p1 p2 p3 p4 p5 q1 q2 q3 q4) inS [("__class__", cc)] .none .none doc pm an (.ref cda) ct) s.heap.objs.size fI)
  refine ks_wpAt_execs_cons (ks_wpAt_Expr_any (ks_wpAt_MethodCall (pl := pl) ?_ hpl))
  refine ks_wpAt_super_base (env := callEnv (PySem.W.fnX "__init__" qual (inA a1 a2) (inB msg p0 p1 p2 p3 p4 p5 q1 q2 q3 q4) inS [("__class__", cc)] .none .none doc pm an (.ref cda) ct) s.heap.objs.size fI) rfl rfl rfl rfl (X1 _ _ ho) rfl rfl rfl (X1 _ _ hco) rfl hvs (by simp) htop ?_
  refine PySem.W.ks_loadName_global rfl rfl (Calls.loadGlobal_builtin (mg := mg) (mb := mb) ?_ gs ?_ bs ⟨rfl, ?_⟩)
  · obtain ⟨o, es, ep, e, r⟩ := G
    exact ⟨o, es, ep, hk _ _ e, r⟩
  · obtain ⟨o, es, ep, e, r⟩ := B
    exact ⟨o, es, ep, hk _ _ e, r⟩
  refine wpAny_loadName_free rfl rfl (c := cc) rfl ⟨_, X1 _ _ hce, rfl⟩ ?_
  refine wpAny_loadName_local (m := fun y => ([("self", .ref x), ("value", v)] : List (Str × Value)).reverse.lookup y) rfl rfl hns rfl ?_
  refine ks_wpAny_isType_cls hC1 rfl ⟨rfl, ?_⟩
  refine ks_wpAny_call_super (C := C) hC1 rfl hx1 rfl (fun c e => by cases e) (PySem.W.looks_mroIn X1 (by unfold PySem.W.mroIn; rw [hcl, Option.bind_some, if_neg (by simp), hcC])) (fun h2 hso k2' => ?_)
  have X2 : K.In h2 := X1.keeps k2'
  have hx2 := k2' _ _ hx1
  have I2 : PySem.W.InstAt h2 x (excO C t0) C none := ⟨hx2, rfl, rfl, trivial⟩
  refine PySem.W.kxs_getMethod PySem.W.kxs_ValueError hso (PySem.W.looks_opaque X2 TL.opq) (l₀ := .ref C :: bm) (l := bm) (fun A' Q' E' s' k' q' => wpAny_bind ((PySem.W.looks_clsIn X2 hcl) A' _ E' s' k' (wpAny_pure q')))
    (by simp [List.dropWhile_cons]) X2 hal (I2.type.andThen (PySem.W.looks_mroIn X2 ((T.under _).trans (by rfl)))) hxC (by decide) ?_
  have k3 : ∀ b o, h2.get? b = some o → (h2.push (PySem.W.kxs_mw "ValueError.__init__" x)).get? b = some o := fun b o e => Heap.get?_push_of_some _ e
  have hu : (h2.push (PySem.W.kxs_mw "ValueError.__init__" x)).get? h2.objs.size = some (PySem.W.kxs_mw "ValueError.__init__" x) := Heap.get?_push_at rfl rfl
  refine PySem.W.kxs_callWith (i := "ValueError.__init__") (x := x) (by rfl) ?_
  refine Calls.evalArgs_plain ?_
  refine Calls.spliced_cons (wpAny_Constant_str (k := 0) (pos := p3) (Calls.spliced_nil ⟨hu, ?_⟩))
  have hone : ([.str msg s.toks] : List Value).length ≤ sizeLine := by rw [sizeLine_eq]; exact (by decide : 1 ≤ 16777216)
  refine wpAny_call (codeAny_of_tree ?_)
  show wpAny _ _ (callAny (.ref h2.objs.size) _) _ _ _
  simp only [callAny]
  refine wpAny_bind (wpAny_load hu ?_)
  simp only [PySem.W.kxs_mw, show (Value.type "method-wrapper" == Value.type "method" || Value.type "method-wrapper" == Value.type "builtin_function_or_method" || Value.type "method-wrapper" == Value.type "method-wrapper") = true by decide, if_true]
  refine PySem.W.KFB.if_so (by decide) ?_
  refine wpAny_bind (PySem.W.check_bound_init F.excBase_ValueError.toExcCallFacts (k3 _ _ (k2' _ _ hC1)) (k3 _ _ hx2) rfl ?_)
  refine wpAny_bind (wpAny_pure (wpAny_pure ?_))
  refine ⟨plainId_quiet F.excBase_ValueError.init.plain _, codeAny_builtin F.excBase_ValueError.initEntry ?_⟩
  refine PySem.W.exc_init_tree (cls := .ref C) (t0 := t0) (dv := none) (c2 := .none) (c3 := .none) (b4 := .bool false) (k3 _ _ hx2) (by rw [sizeLine_eq]; exact (by decide : 1 ≤ 16777216)) (fun h3 k4 hx3 _ => ?_)
  show wpAt _ _ _ (execs _ _) _ _ _
  have keep3 : ∀ b o, b ≠ x → h1.get? b = some o → h3.get? b = some o := fun b o hb e => k4 b o hb (k3 _ _ (k2' _ _ e))
  have hns3 : h3.Ns s.heap.objs.size (fun y => ([("self", .ref x), ("value", v)] : List (Str × Value)).reverse.lookup y) := by
    obtain ⟨o, es, ep, e, r⟩ := hns
    exact ⟨o, es, ep, keep3 _ _ hL e, r⟩
  have X3 : K.In h3 := fun a o e => keep3 a o (fun z => by
    rw [z, hnx] at e
    cases e) (X1 a o e)
  refine ks_wpAt_execs_cons (ks_wpAt_Assign_Attr ?_)
  refine wpAt_of_wpAny (wpAny_Name (wpAny_loadName_local rfl rfl hns3 rfl ?_))
  refine wpAny_Name (wpAny_loadName_local rfl rfl hns3 rfl ?_)
  refine PySem.W.set_plain X3 (ox := excO C _) (od := none) ⟨hx3, rfl, rfl, trivial⟩ T.sa ?_
  refine exc_osa X3 hx3 hcl (show refsVE (.ref C :: bm) = true from hbm) rfl T.nv (fun h4 tk4 dx k5 dn dne hx4 hn4 => ?_)
  refine wpAt_of_wpAny (wpAny_pure ?_)
  refine hq h4 tk4 dx _ ⟨fun b o hb e => k5 b o hb (keep3 b o hb (hk b o e)), hx4, Nat.le_trans (Nat.le_of_lt hns3.lt) dn, dne, hn4⟩
end
end Lx
namespace Lx
open PySem PySem.HandSPX
/-- a made error, at e, its own dict at d -/
structure ErrMade (h h' : Heap) (e C d : Addr) (v : Value) : Prop where
  keep : ∀ b o, h.get? b = some o → h'.get? b = some o
  ebig : h.objs.size ≤ e
  obj : ∃ t1 : Addr, h'.get? e = some { cls := .ref C, dict := some d, data := .fields #[.ref t1, .none, .none, .none, .bool false, .none] }
  dbig : h.objs.size ≤ d
  ne : d ≠ e
  ns : h'.Ns1 d (fun y => if y = "value" then some v else none)
section
variable {prog : Program} {w : World} {A : Around} {R : Result → Shared → Prop} {s : Shared}
variable {K : PySem.W.Frag} {mg mb : Str → Option Value} {nm qual : Str} {st : Stmt} {C L : Addr}
theorem errMade (TL : LineC K mg L) (T : ErrC K prog.main.file mg L nm qual st C) {v : Value} {ps : List Value} {kw : List (Str × Value)} (hv : Hands v ps kw) (htop : (prog.main.scope.names.lookup ("super" : Str)).isSome = false)
    (X : K.In s.heap) (G : s.heap.Ns mainGlobals mg) (gs : mg "super" = none) (B : s.heap.Ns builtinsNs mb) (bs : mb "super" = some (.type "super")) (hlim : s.heap.NoLimit) (hroom : A.depth + 1 < recursionLimit)
    (hq : ∀ h' tk e d, ErrMade s.heap h' e C d v → R (.ok (.ret (.ref e))) { s with heap := h', toks := tk }) : codeAny (model prog w) A (.call (.ref C) ⟨ps, kw⟩) R s := by
  obtain ⟨n, q, N, bss, sn, sub, ab, col, dd, k0, k1, k2, k3, k5, hC⟩ := T.cls
  obtain ⟨fI, iC, tI, _⟩ := T.init
  obtain ⟨hp, g, dr, tk, os⟩ := s
  have kp : ∀ b o, hp.get? b = some o → ((hp.push (W.kdv_tup ps)).push (excO C hp.objs.size)).get? b = some o := fun b o e => Heap.get?_push_of_some _ (Heap.get?_push_of_some _ e)
  have hget : ((hp.push (W.kdv_tup ps)).push (excO C hp.objs.size)).get? (hp.objs.size + 1) = some (excO C hp.objs.size) := by heap_get
  have hnx : K.lookup (hp.objs.size + 1) = none := by
    cases e : K.lookup (hp.objs.size + 1) with
    | none => rfl
    | some o =>
      have z : hp.get? (hp.objs.size + 1) = some o := X _ _ e
      exact absurd (Nat.lt_of_succ_lt (Heap.lt_size z)) (Nat.lt_irrefl _)
  have hl : ps.length ≤ sizeLine := by
    cases hv with
    | pos => rw [sizeLine_eq]; exact (by decide : 1 ≤ 16777216)
    | kw => exact Nat.zero_le _
  refine clsCalls F.excBase_ValueError (fun Y => refsVE_contains Y (.ref L :: HandSPX.veTail) (by rfl)) (X _ _ hC) (W.looks_findIn X iC) (fun self => W.bind_fn X self tI) hl ?_
  refine initRuns (s := ⟨(hp.push (W.kdv_tup ps)).push (excO C hp.objs.size), g, dr, tk, os⟩) TL T hv htop iC (X.keeps kp) ?_ gs ?_ bs (hlim.keeps kp) hnx hget ?_ fun h' tk' dx t1 I => ?_
  · obtain ⟨o, es, ep, e, r⟩ := G
    exact ⟨o, es, ep, kp _ _ e, r⟩
  · obtain ⟨o, es, ep, e, r⟩ := B
    exact ⟨o, es, ep, kp _ _ e, r⟩
  · show A.depth + 1 < recursionLimit
    exact hroom
  · have z : hp.objs.size + 1 + 1 ≤ dx := by
      first
        | (simpa only [Heap.size_push] using I.big)
        | (have q := I.big; rw [Heap.size_push, Heap.size_push] at q; exact q)
    refine ⟨rfl, hq h' tk' (hp.objs.size + 1) dx ⟨fun b o e => I.keep b o (Nat.ne_of_lt (Nat.lt_succ_of_lt (Heap.lt_size e))) (kp b o e), Nat.le_succ _, ⟨t1, I.obj⟩, (show hp.objs.size ≤ dx by omega), I.ne, I.ns⟩⟩
end
end Lx
namespace Lx
open PySem PySem.Spec L2
/-- at e: an error of the class at C, its own dict at d -/
def errO (e C d : Addr) : HO := .ext fun h => ∃ t1 : Addr, h.get? e = some ({ cls := .ref C, dict := some d, data := .fields #[.ref t1, .none, .none, .none, .bool false, .none] } : Obj)
theorem errO_ok {P : Program} {w : World} {H : Hp} {h : Heap} {e C d t1 : Addr} (he : h.get? e = some ({ cls := .ref C, dict := some d, data := .fields #[.ref t1, .none, .none, .none, .bool false, .none] } : Obj)) : ObjOk P w H h e (errO e C d) :=
  ⟨⟨t1, he⟩, ⟨_, he⟩, fun _ _ ⟨t, q⟩ k => ⟨t, k _ q⟩⟩
theorem errO_at {P : Program} {w : World} {H : Hp} {h : Heap} {e C d : Addr} (hok : HOk P w H h) (he : H e = some (errO e C d)) : ∃ t1 : Addr, h.get? e = some ({ cls := .ref C, dict := some d, data := .fields #[.ref t1, .none, .none, .none, .bool false, .none] } : Obj) := by
  have x : ObjOk P w H h e (.ext fun h => ∃ t1 : Addr, h.get? e = some ({ cls := .ref C, dict := some d, data := .fields #[.ref t1, .none, .none, .none, .bool false, .none] } : Obj)) := hok e _ he
  exact x.1
/-- the fields of a made error -/
abbrev vf (v : V) : List (Str × V) := [(("value" : Str), v)]
theorem relO_vf {v : V} {u : Value} (r : RelV v u) (f : Str) : RelO (List.lookup f (vf v)) (if f = "value" then some u else none) := by
  by_cases hw : f = "value"
  · subst hw
    rw [if_pos rfl]
    have q : List.lookup ("value" : Str) (vf v) = some v := by simp [List.lookup]
    rw [q]
    exact r
  · rw [if_neg hw]
    have qw : (f == ("value" : Str)) = false := by simpa using hw
    have q2 : List.lookup f (vf v) = none := by simp [List.lookup, qw]
    rw [q2]
    trivial
section
variable {X : Cx} {pins : List (Addr × Obj)} {σ : St} {H : Hp} {s : Shared}
/-- two new objects laid at once -/
theorem laid2 {h' : Heap} {d e : Addr} {o1 o2 : HO} {t' : Nat} (I : Inv X pins σ H s) (k : ∀ b u, s.heap.get? b = some u → h'.get? b = some u) (hd : s.heap.objs.size ≤ d) (he : s.heap.objs.size ≤ e)
    (ok1 : ObjOk X.prog X.w (upd (upd H d o1) e o2) h' d o1) (ok2 : ObjOk X.prog X.w (upd (upd H d o1) e o2) h' e o2) : Inv X pins σ (upd (upd H d o1) e o2) { s with heap := h', toks := t' } := by
  have nd : H d = none := I.hok.fresh hd
  have ne : H e = none := I.hok.fresh he
  have old : ∀ b o, H b = some o → upd (upd H d o1) e o2 b = some o := fun b o q => by
    rw [upd_ne (ne_of_none q ne), upd_ne (ne_of_none q nd)]
    exact q
  have lt : ∀ (b : Addr) (o : Obj), s.heap.get? b = some o → b ≠ d ∧ b ≠ e := fun b o q => ⟨Nat.ne_of_lt (Nat.lt_of_lt_of_le (Heap.lt_size q) hd), Nat.ne_of_lt (Nat.lt_of_lt_of_le (Heap.lt_size q) he)⟩
  refine I.un (t' := t') ⟨fun b o q _ _ _ => k b o q, fun b o q _ _ _ => ⟨o.slots, k b o q⟩, fun b o q n _ => ?_, fun b o q _ => ⟨o, k b o q⟩, fun b xs q => old _ _ q, fun b o u q => old _ _ q, fun b ps q => ⟨#[], by rw [old _ _ q]; simp⟩⟩ fun b o q => ?_
  · rw [upd_ne (lt b o q).2, upd_ne (lt b o q).1]
    exact n
  · by_cases h1 : b = e
    · subst h1
      rw [upd_same] at q
      cases q
      exact ok2
    · rw [upd_ne h1] at q
      by_cases h2 : b = d
      · subst h2
        rw [upd_same] at q
        cases q
        exact ok1
      · rw [upd_ne h2] at q
        exact (I.hok b o q).stay (fun c v _ z => k c v z) (fun c z => old _ _ z) fun c xs z => old _ _ z
end
/-- C(e), C(value=e): a new error and its dict -/
def tErr (C : Addr) (ta : TE) : TE := fun σ H Q => ta σ H fun v H1 => ∀ d e : Addr, H1 d = none → H1 e = none → d ≠ e → Q (.ref e) (upd (upd H1 d (.xd (vf v))) e (errO e C d))
/-- raise C(e) -/
def tErrR (C : Addr) (ta : TE) : St → Hp → XK → Prop := fun σ H Q => ta σ H fun v H1 => ∀ d : Addr, H1 d = none → Q (.ref C) (some d) (upd H1 d (.xd (vf v)))
section
variable {X : Cx} {C L : Addr} {nm qual : Str} {st : Stmt} {a : Expr} {ta : TE} {p pos kpos : Pos} {k : Nat}
theorem callErr {pins : List (Addr × Obj)} {σ : St} {H : Hp} {s : Shared} {R : Value → Shared → Prop} {E : Value → Shared → Prop} (TL : LineC X.K X.mg L) (T : ErrC X.K X.prog.main.file X.mg L nm qual st C) (hr : Room k X.A) (htop : (X.prog.main.scope.names.lookup ("super" : Str)).isSome = false) (gs : X.mg "super" = none)
    {v : Value} {ps : List Value} {kw : List (Str × Value)} (hv : Hands v ps kw) (I : Inv X pins σ H s)
    (hq : ∀ h' tk e d, ErrMade s.heap h' e C d v → R (.ref e) { s with heap := h', toks := tk }) : wpAny (model X.prog X.w) X.A (call (.ref C) ps kw) R E s := by
  obtain ⟨mb, hB, hb⟩ := I.mod.blt
  refine wpAny_call (errMade TL T hv htop I.kIn (I.mod.glob.keeps I.bk) gs (hB.keeps I.bk) ((hb _ (by decide)).trans (by decide +kernel)) I.nolimit (by have := hr.dp; omega) fun h' tk e d M => hq h' tk e d M)
theorem errEP {pins : List (Addr × Obj)} {σ : St} {H : Hp} {s : Shared} {h' : Heap} {tk : Nat} {e d : Addr} {v : V} {u : Value} {Q : VK} (I : Inv X pins σ H s) (r : RelV v u) (M : ErrMade s.heap h' e C d u)
    (q : ∀ d e : Addr, H d = none → H e = none → d ≠ e → Q (.ref e) (upd (upd H d (.xd (vf v))) e (errO e C d))) : EP X pins σ Q (.ref e) { s with heap := h', toks := tk } := by
  obtain ⟨t1, ho⟩ := M.obj
  exact ⟨.ref e, _, laid2 (o1 := .xd (vf v)) (o2 := errO e C d) I M.keep M.dbig M.ebig ⟨_, M.ns, fun f => relO_vf r f⟩ (errO_ok ho), rfl, q d e (I.hok.fresh M.dbig) (I.hok.fresh M.ebig) M.ne⟩
/-- C(e) as a value -/
theorem pe_err (TL : LineC X.K X.mg L) (T : ErrC X.K X.prog.main.file X.mg L nm qual st C) (hr : Room k X.A) (htop : (X.prog.main.scope.names.lookup ("super" : Str)).isSome = false) (gs : X.mg "super" = none) (hg : Gl X nm) (he : PE X a ta) (hdb : (nm == ("__debug__" : Str)) = false := by decide)
    (hs : starEach [a] X.env = (false, eval a X.env) :: starEach [] X.env := by rfl) (hpl : (backTo pos (starEach [] X.env)).any (·.1) = false := by rfl) : PE X (.Call (.Name nm p) [a] [] pos) (tErr C ta) := by
  refine ⟨fun pins s σ H Q I h => ?_⟩
  refine wpAny_Call_Name_kw (ld_glob I hg T.gC ?_ hdb)
  refine PySem.W.callWith_K (h₀ := X.base) I.ok.mod.kin T.kp ?_ hs hpl
  rw [hs]
  show wpAny _ _ (spliced ((false, eval a X.env) :: backTo pos (starEach [] X.env))) _ _ s
  refine Calls.spliced_cons (thn (he.run pins s σ H _ I h) fun u s1 ⟨v, H1, I1, r1, q1⟩ => ?_)
  refine Calls.spliced_nil ⟨I1.kIn, ?_⟩
  show wpAny _ _ (call (.ref C) [u]) _ _ _
  exact callErr TL T hr htop gs .pos I1 fun h' tk e d M => errEP I1 r1 M q1
/-- C(value=e) as a value -/
theorem pe_errK (TL : LineC X.K X.mg L) (T : ErrC X.K X.prog.main.file X.mg L nm qual st C) (hr : Room k X.A) (htop : (X.prog.main.scope.names.lookup ("super" : Str)).isSome = false) (gs : X.mg "super" = none) (hg : Gl X nm) (he : PE X a ta) (hdb : (nm == ("__debug__" : Str)) = false := by decide)
    (hall : (backToKw pos (keywordEach [⟨some "value", a, kpos⟩] X.env)).all (·.1.isSome) = true := by rfl) (hks : (backToKw pos (keywordEach [⟨some "value", a, kpos⟩] X.env)).filterMap (·.1) = [("value" : Str)] := by rfl)
    (hpl : ((backTo pos (starEach [] X.env)).any (·.1) || (backToKw pos (keywordEach [⟨some "value", a, kpos⟩] X.env)).any (·.1.isNone)) = false := by rfl) : PE X (.Call (.Name nm p) [] [⟨some "value", a, kpos⟩] pos) (tErr C ta) := by
  refine ⟨fun pins s σ H Q I h => ?_⟩
  refine wpAny_Call_Name_kw (ld_glob I hg T.gC ?_ hdb)
  refine PySem.W.callWith_KW0 (h₀ := X.base) I.ok.mod.kin T.kp hall ?_ hpl
  refine thn ((pk_cons he pk_nil).run pos pins s σ H (fun vs H1 => match vs with | [v] => ∀ d e : Addr, H1 d = none → H1 e = none → d ≠ e → Q (.ref e) (upd (upd H1 d (.xd (vf v))) e (errO e C d)) | _ => False) I h) fun us s1 ⟨vs, H1, I1, r1, q1⟩ => ⟨I1.kIn, ?_⟩
  rw [hks]
  cases r1 with
  | nil => exact q1.elim
  | cons rv rn =>
    cases rn with
    | nil => exact callErr TL T hr htop gs .kw I1 fun h' tk e d M => errEP I1 rv M q1
    | cons _ _ => exact q1.elim
/-- raise C(e): what makes the error -/
theorem pmk_err (TL : LineC X.K X.mg L) (T : ErrC X.K X.prog.main.file X.mg L nm qual st C) (hr : Room k X.A) (htop : (X.prog.main.scope.names.lookup ("super" : Str)).isSome = false) (gs : X.mg "super" = none) (hg : Gl X nm) (he : PE X a ta) (hdb : (nm == ("__debug__" : Str)) = false := by decide)
    (hs : starEach [a] X.env = (false, eval a X.env) :: starEach [] X.env := by rfl) (hpl : (backTo pos (starEach [] X.env)).any (·.1) = false := by rfl) : PMk X (.Call (.Name nm p) [a] [] pos) (tErrR C ta) := by
  intro pins s σ H Q I h
  refine wpAny_Call_Name_kw (ld_glob I hg T.gC ?_ hdb)
  refine PySem.W.callWith_K (h₀ := X.base) I.ok.mod.kin T.kp ?_ hs hpl
  rw [hs]
  show wpAny _ _ (spliced ((false, eval a X.env) :: backTo pos (starEach [] X.env))) _ _ s
  refine Calls.spliced_cons (thn (he.run pins s σ H _ I h) fun u s1 ⟨v, H1, I1, r1, q1⟩ => ?_)
  refine Calls.spliced_nil ⟨I1.kIn, ?_⟩
  show wpAny _ _ (call (.ref C) [u]) _ _ _
  refine callErr TL T hr htop gs .pos I1 fun h' tk e d M => ?_
  obtain ⟨t1, hoe⟩ := M.obj
  have hns := M.ns
  obtain ⟨G', g1, g2⟩ := restrict h' fun b => decide (b ≠ e)
  have gk : ∀ b, b ≠ e → G'.get? b = h'.get? b := fun b hb => g1 b (decide_eq_true hb)
  have ge : G'.get? e = none := g2 e (by simp)
  have old : ∀ b o, s1.heap.get? b = some o → G'.get? b = some o := fun b o q => (gk b (Nat.ne_of_lt (Nat.lt_of_lt_of_le (Heap.lt_size q) M.ebig))).trans (M.keep b o q)
  have ob : ObjOk X.prog X.w (upd H1 d (.xd (vf v))) G' d (.xd (vf v)) := ⟨_, hns.at (fun o q => (gk d M.ne).trans q), fun f => relO_vf r1 f⟩
  have J : Inv X pins σ (upd H1 d (.xd (vf v))) { s1 with heap := G', toks := tk } := I1.laid (t' := tk) old M.dbig ob
  have r : Raises X (.ref C) := raises_own ((T.under _).trans (by rfl)) T.ty
  refine ⟨e, _, _, { s1 with heap := G', toks := tk }, _, .ref C, some d, rfl, J, fun b o q => ?_, ge, hoe, ⟨rfl, rfl⟩, rfl, rfl, ?_, rfl, I1.bare, r, q1 d (I1.hok.fresh M.dbig)⟩
  · by_cases hb : b = e
    · have q' : G'.get? b = some o := q
      rw [hb, ge] at q'
      cases q'
    · exact (gk b hb).symm.trans q
  · rw [upd_ne (Ne.symm M.ne)]
    exact I1.hok.fresh M.ebig
/-- the error's class is asked for -/
theorem kitErr (TL : LineC X.K X.mg L) (T : ErrC X.K X.prog.main.file X.mg L nm qual st C) {x : Addr} {ox : Obj} {od : Option Obj} : PySem.W.KitX X.K (.ref x) (.ref C) (fun h => PySem.W.InstAt h x ox C od) := by
  obtain ⟨cd, e1, e2, e3⟩ := T.chain
  exact PySem.W.kitx_exc (by rw [e1]; rfl) T.ga T.gg ((T.under _).trans (by rfl)) T.ca TL.sp TL.tk ((T.under _).trans (by rfl))
/-- isinstance(e, c), e a made error, c a class of the program (at D) or a built-in one -/
def rIsErr (K : PySem.W.Frag) : List V → Hp → VK → Prop := fun xs H Q => ∃ (e C d : Addr) (v : V) (c : V) (u : Value) (b : Bool), xs = [.ref e, c] ∧ H e = some (errO e C d) ∧ H d = some (.xd (vf v)) ∧ ClsV c u ∧ PySem.W.kitOne K (.ref C) u = some b ∧
  (∃ (file : Str) (mg : Str → Option Value) (L : Addr) (nm qual : Str) (st : Stmt), LineC K mg L ∧ ErrC K file mg L nm qual st C) ∧ Q (.bl b) H
theorem call_isErr : CallR X (.builtin "isinstance") (rIsErr X.K) := by
  intro pins s σ H xs us Q I r h
  obtain ⟨e, C', d, v, c, u, b, rfl, he, hd, hc, hk, ⟨file, mg, L', nm', qual', st', TL, T⟩, q⟩ := h
  obtain ⟨u1, u2, rfl, r1, r2⟩ := vals2 r
  obtain rfl : u1 = Value.ref e := r1
  have e2 := hc.eq r2
  subst e2
  obtain ⟨t1, ho⟩ := errO_at I.hok he
  obtain ⟨mA, hns, _⟩ := (show ∃ mA, s.heap.Ns1 d mA ∧ ∀ f, RelO ((vf v).lookup f) (mA f) from I.hok d _ hd)
  obtain ⟨od, hod, _⟩ := lookIn_ns hns
  obtain ⟨cd, q1, q2, q3⟩ := T.chain
  have Z : PySem.W.KitX X.K (.ref e) (.ref C') (fun h => PySem.W.InstAt h e { cls := .ref C', dict := some d, data := .fields #[.ref t1, .none, .none, .none, .bool false, .none] } C' (some od)) :=
    PySem.W.kitx_exc (by rw [q1]; rfl) T.ga T.gg ((T.under _).trans (by rfl)) T.ca TL.sp TL.tk ((T.under _).trans (by rfl))
  exact PySem.W.kia_one Z I.kIn ⟨ho, rfl, rfl, hod⟩ hk (fun z => nomatch z) fun tk => ⟨.bl b, H, I.tok tk, rfl, q⟩
/-- e.value, e a made error -/
def tErrV (K : PySem.W.Frag) (te : TE) : TE := fun σ H Q => te σ H fun x H1 => ∃ (e C d : Addr) (v : V), x = .ref e ∧ H1 e = some (errO e C d) ∧ H1 d = some (.xd (vf v)) ∧
  (∃ (file : Str) (mg : Str → Option Value) (L : Addr) (nm qual : Str) (st : Stmt), LineC K mg L ∧ ErrC K file mg L nm qual st C) ∧ Q v H1
theorem pe_errV {e : Expr} {te : TE} (he : PE X e te) (hb : attributeBase e "value" X.env (eval e X.env) = eval e X.env := by rfl) : PE X (.Attribute e "value" pos) (tErrV X.K te) := by
  refine ⟨fun pins s σ H Q I h => ?_⟩
  refine attr_of hb (thn (he.run pins s σ H _ I h) fun u s1 hh => ?_)
  obtain ⟨x, H1, I1, rx, e', C', d, v, ex, hoe, hd, ⟨file, mg, L', nm', qual', st', TL, T⟩, q⟩ := hh
  subst ex
  obtain rfl : u = Value.ref e' := rx
  obtain ⟨t1, ho⟩ := errO_at I1.hok hoe
  obtain ⟨mA, hns, hr⟩ := (show ∃ mA, s1.heap.Ns1 d mA ∧ ∀ f, RelO ((vf v).lookup f) (mA f) from I1.hok d _ hd)
  obtain ⟨od, hod, hl⟩ := lookIn_ns hns
  have l : List.lookup ("value" : Str) (vf v) = some v := by simp [List.lookup]
  obtain ⟨u, hu, ru⟩ := RelO.some_of (v := v) (o := mA "value") (by rw [← l]; exact hr "value")
  have J : PySem.W.InstAt s1.heap e' { cls := .ref C', dict := some d, data := .fields #[.ref t1, .none, .none, .none, .bool false, .none] } C' (some od) := ⟨ho, rfl, rfl, hod⟩
  obtain ⟨cd, q1, q2, q3⟩ := T.chain
  have hdict : PySem.W.hasDictIn X.K C' = true := by
    unfold PySem.W.hasDictIn
    rw [q1]
    simpa using q3
  exact HandSPX.exc_get I1.kIn J T.ga T.gg ((T.under _).trans (by rfl)) (PySem.W.findObj_own hdict T.nv rfl (by rw [hl, hu])) (handed_of ru) ⟨v, H1, I1.tok _, ru, q⟩
end
end Lx
/-! promises of defs that are called where no repr is at work -/
namespace Lx
open PySem PySem.Spec L2
open PyProof.Rows (AllBare IntsAre)
/-- as FnOk, at callers in which no guarded call (a repr, a comparison) runs -/
structure FnG (P : Program) (w : World) (K : PySem.W.Frag) (mg : Str → Option Value) (base : Heap) (CX : CXT) (k : Nat) (f : Addr) (fd : FuncData) (ps : List Str) (sp : Sp) : Prop where
  len : ∀ vs H Q E, sp vs H Q E → vs.length = ps.length
  go : ∀ (A : Around) (outer : List Env) (s : Shared) (H : Hp) (args : Args) (us : List Value) (vs : List V) (Q : VK) (E : XK), Room k A → A.guards = some [] → Env0 P w K mg base A outer s H → BindsTo s fd args (ps.zip us) → Vals vs us → sp vs H Q E →
    codeAny (model P w) A (.call (.ref f) args) (CR CX outer P w H s Q E) s
section
variable {P : Program} {w : World} {K : PySem.W.Frag} {mg : Str → Option Value} {base : Heap} {CX : CXT}
theorem FnG.of {k : Nat} {f : Addr} {fd : FuncData} {ps : List Str} {sp : Sp} (F : FnOk P w K mg base CX k f fd ps sp) : FnG P w K mg base CX k f fd ps sp :=
  ⟨F.len, fun A outer s H args us vs Q E hr _ he hb hv hs => F.run A outer s H args us vs Q E hr he hb hv hs⟩
/-- a def's promise by its body -/
theorem okG {x qual : Str} {st : Stmt} {f : Addr} {fd : FuncData} {N ps : List Str} {k : Nat} {sp : Sp} (F : Fun K x qual st f fd) (S : FnScope N ps (defScope st)) (len : ∀ vs H Q E, sp vs H Q E → vs.length = ps.length)
    (hb : ∀ (cdv : Value) (A : Around) (outer : List Env) (s : Shared) (H : Hp) (vs : List V) (Q : VK) (E : XK), Room k (A.deeper (PyProof.Rows.envOfC qual (defScope st) s.heap.objs.size f cdv)) → A.guards = some [] → sp vs H Q E →
      ∃ t, PSs (cxOf CX P w K mg base N qual (defScope st) f cdv A outer s H E) (defBody st) t ∧ t { nx := fun _ H' => Q .non H', rt := Q } (start N vs) H) : FnG P w K mg base CX (k + 1) f fd ps sp := by
  obtain ⟨oc, od, kV, doc, pm, an, cdv, ct, osl, rfl, lk, hcd⟩ := F.ex
  refine ⟨len, fun A outer s H args us vs Q E hr hg e0 hbd r hsp => ?_⟩
  have X : K.In s.heap := e0.mod.kin.keeps fun b o e => (e0.bs b o e).1
  have lim : s.heap.NoLimit := e0.mod.nolimit.keeps fun b o e => (e0.bs b o e).1
  refine codeAny_call_function hr.depth (X _ _ lk) rfl S.co S.gen rfl (PySem.W.codeRec_of X hcd) (hbd _ _ _ _ ?_)
  refine wpAny_newFunctionEnv_cells S.kind (fun y hy => ?_) fun env he s1 x1 => ?_
  · obtain ⟨n, v⟩ := y
    rcases S.par n (List.of_mem_zip hy).1 with q | q
    · exact .inl q
    · exact .inr ⟨q, PySem.W.cellsFrom_some _ _ _ (.inl q)⟩
  · subst he
    refine ⟨lim.keeps x1.toInCall.keep, codeAny_func ?_⟩
    obtain ⟨t, ht, hq⟩ := hb cdv A outer s H vs Q E (hr.deeper _) hg hsp
    have I := inv_start (CX := CX) (E := E) S hr.hd e0 (len _ _ _ _ hsp) r x1
    refine wpAny_mono (ht.run [] s1 (start N vs) H _ I hq) (fun fl s2 z => ?_) fun _ _ z => z
    rcases fl with _ | _ | _ | u
    all_goals first
      | (obtain ⟨_, _, _, q⟩ := z; exact q.elim)
      | (obtain ⟨σ2, H2, J, q⟩ := z; exact ⟨V.non, H2, J.os, J.bare, J.base, J.hok, rfl, q⟩)
      | (obtain ⟨v2, σ2, H2, J, rv, q⟩ := z; exact ⟨v2, H2, J.os, J.bare, J.base, J.hok, rv, q⟩)
end
section
variable {X : Cx} {CX : CXT} {k : Nat} {f : Addr} {fd : FuncData} {ps : List Str} {sp : Sp} {dvs : List V} {ds : List Value} {E : XK} {x : Str} {p pos : Pos} {e : Expr} {es : List Expr} {t : TA}
/-- f(e, ..) -/
theorem pe_callG (F : FnG X.prog X.w X.K X.mg X.base CX k f fd ps sp) (hG : X.A.guards = some []) (hr : Room k X.A) (hg : Gl X x) (hm : X.mg x = some (.ref f)) (hk : PySem.W.keepIn X.K (.ref f) = true) (hb : Binds X.K fd ps ds) (hd : Vals dvs ds) (hx : Passes CX X E)
    (ha : PA X (e :: es) t) (hdb : (x == ("__debug__" : Str)) = false := by decide) (he : starEach (e :: es) X.env = (false, eval e X.env) :: starEach es X.env := by rfl) (hpl : (backTo pos (starEach es X.env)).any (·.1) = false := by rfl) :
    PE X (.Call (.Name x p) (e :: es) [] pos) (tCall sp dvs E t) := by
  refine ⟨fun pins s σ H Q I h => ?_⟩
  refine wpAny_Call_Name_kw (ld_glob I hg hm ?_ hdb)
  refine PySem.W.callWith_K (h₀ := X.base) I.ok.mod.kin hk (thn (ha.run pos pins s σ H _ I h) fun us s1 ⟨vs, H1, I1, r, q⟩ => ⟨I1.kIn, ?_⟩) he hpl
  have r2 : Vals (vs ++ dvs) (us ++ ds) := r.append hd
  have hl : (us ++ ds).length = ps.length := by rw [← r2.length]; exact F.len _ _ _ _ q
  show wpAny _ _ (call (.ref f) us) _ _ _
  refine wpAny_call (codeAny_mono (F.go X.A X.stack s1 H1 ⟨us, []⟩ (us ++ ds) (vs ++ dvs) Q E hr hG I1.env0 (hb s1 us I1.kIn hl) r2 q) fun res s' hq => ?_)
  rcases res with er | fl
  · exact hx pins σ H1 s1 er s' I1 hq
  · rcases fl with _ | _ | _ | u
    all_goals first
      | exact I1.after hq
      | exact False.elim hq
end
/-- the heap in which nothing but the script is told -/
def onlyAt (a : Addr) (o : Obj) (ns : List Int) : Hp := fun b => if b = a then some (.frz o (.lst (ns.map V.int))) else none
section
variable {P : Program} {w : World} {K : PySem.W.Frag} {mg mb : Str → Option Value} {CX : CXT} {k : Nat} {fa a : Addr} {fd : FuncData} {x : Str} {sp : Sp} {s : Shared} {vs : List Value} {ns : List Int}
/-- the law's call, from an abstract heap that tells of the script at most -/
theorem lawFrom (KX : K.In s.heap) (hns : s.heap.Ns mainGlobals mg) (hbl : s.heap.Ns builtinsNs mb) (hbb : ∀ x : Str, x ≠ "__name__" → mb x = bootBuiltins x) (hlim : s.heap.NoLimit) (hg : s.gens = #[]) {o : Obj} (ho : s.heap.get? a = some o) (hdict : ∀ es ep, o.data ≠ .dict es ep)
    (hr : Room k callerA) (F : ∀ base : Heap, K.In base → base.Ns mainGlobals mg → FnG P w K mg base CX k fa fd [x] sp) (hbind : ∀ (s : Shared) (u : Value), BindsTo s fd ⟨[u], []⟩ [(x, u)])
    (H : Hp) (hok : HOk P w H s.heap) (hA : ∀ b, H b ≠ none → b = a ∧ K.lookup a = none ∧ H a = some (.frz o (.lst (ns.map V.int)))) (hsp : sp [.ref a] H (fun v _ => v = .bl true) fun _ _ _ => False) (hCX : ∀ e s', CX [] H s (fun _ _ _ => False) e s' → False) :
    codeAny (model P w) callerA (.call (.ref fa) ⟨[.ref a], []⟩) (fun r s' => r = .ok (.ret (.bool true)) ∧ OldK s.heap s'.heap ∧ s'.os = s.os ∧ AllBare s'.gens) s := by
  have free : ∀ {b : Addr} {u : Obj}, s.heap.get? b = some u → (∃ es ep, u.data = .dict es ep) → H b = none := fun {b u} e ⟨es, ep, d⟩ => by
    cases q : H b with
    | none => rfl
    | some z =>
      obtain ⟨rfl, _, _⟩ := hA b (by rw [q]; simp)
      rw [ho] at e
      cases e
      exact (hdict es ep d).elim
  have nsK : ∀ {b : Addr} {m : Str → Option Value}, s.heap.Ns b m → (hidT s.heap H).Ns b m := fun {b m} ⟨u, es, ep, e, d, r⟩ => ⟨u, es, ep, hidT_get e (free e ⟨es, ep, d⟩), d, r⟩
  have kb : K.In (hidT s.heap H) := fun b u e => hidT_get (KX b u e) (by
    cases q : H b with
    | none => rfl
    | some z =>
      obtain ⟨rfl, q2, _⟩ := hA b (by rw [q]; simp)
      rw [q2] at e
      cases e)
  have hM : Mod K mg (hidT s.heap H) := ⟨kb, nsK hns, ⟨mb, nsK hbl, hbb⟩, let ⟨mc, h1, h2⟩ := hlim; ⟨mc, nsK h1, h2⟩⟩
  have e0 : Env0 P w K mg (hidT s.heap H) callerA [] s H := ⟨rfl, hM, fun b u e => of_hidT e, Nat.le_of_eq (hidT_size _ _), trivial, fun b hb => absurd (show b ∈ ([] : List Addr) from hb) (by simp), hok, .of_eq hg⟩
  refine codeAny_mono ((F _ kb (nsK hns)).go callerA [] s H ⟨[.ref a], []⟩ [.ref a] [.ref a] _ _ hr rfl e0 (hbind s (.ref a)) (.cons rfl .nil) hsp) fun r s' h => ?_
  rcases r with e | fl
  · exact (hCX e s' h).elim
  · rcases fl with _ | _ | _ | u
    all_goals first
      | exact False.elim h
      | skip
    obtain ⟨v, H', os, bare, un, hok', r', q⟩ := h
    obtain rfl : v = .bl true := q
    obtain rfl : u = Value.bool true := r'
    refine ⟨rfl, OldK.of_keep fun b u e => ?_, os, bare⟩
    cases q : H b with
    | none => exact un.keep b u e q (fun z => absurd (show b ∈ ([] : List Addr) from z) (by simp)) (by simp)
    | some z =>
      obtain ⟨rfl, _, q3⟩ := hA b (by rw [q]; simp)
      obtain ⟨e2, _⟩ := hok' b _ (un.frzs b o _ q3)
      rw [ho] at e
      cases e
      exact e2
theorem lawCall (KX : K.In s.heap) (hns : s.heap.Ns mainGlobals mg) (hbl : s.heap.Ns builtinsNs mb) (hbb : ∀ x : Str, x ≠ "__name__" → mb x = bootBuiltins x) (hlim : s.heap.NoLimit) (hg : s.gens = #[])
    (ha : s.heap.get? a = some { cls := .type "list", data := .seq vs.toArray }) (hi : IntsAre vs ns) (hl : ns.length ≤ sizeLine) (hr : Room k callerA)
    (F : ∀ base : Heap, K.In base → base.Ns mainGlobals mg → FnG P w K mg base CX k fa fd [x] sp) (hbind : ∀ (s : Shared) (u : Value), BindsTo s fd ⟨[u], []⟩ [(x, u)])
    (hsp : ∀ H : Hp, SqL K H a (ns.map V.int) → sp [.ref a] H (fun v _ => v = .bl true) fun _ _ _ => False) (hCX : ∀ H e s', CX [] H s (fun _ _ _ => False) e s' → False) :
    codeAny (model P w) callerA (.call (.ref fa) ⟨[.ref a], []⟩) (fun r s' => r = .ok (.ret (.bool true)) ∧ OldK s.heap s'.heap ∧ s'.os = s.os ∧ AllBare s'.gens) s := by
  have rv := vals_ints hi
  cases hk : K.lookup a with
  | some o =>
    have e := KX a o hk
    rw [ha] at e
    cases e
    refine lawFrom KX hns hbl hbb hlim hg ha (fun _ _ z => by cases z) hr F hbind (ns := ns) (fun _ => none) (fun b u z => by cases z) (fun b z => absurd rfl z) (hsp _ ?_) (hCX _)
    exact .inr ⟨_, vs.toArray, _, hk, rfl, rfl, rfl, by rw [List.size_toArray, hi.length]; exact hl, by simpa using rv⟩
  | none =>
    refine lawFrom KX hns hbl hbb hlim hg ha (fun _ _ z => by cases z) hr F hbind (ns := ns) (onlyAt a { cls := .type "list", data := .seq vs.toArray } ns) (fun b u z => ?_) (fun b z => ?_) (hsp _ (.inl (.inr ⟨_, if_pos rfl⟩))) (hCX _)
    · by_cases hb : b = a
      · have q := (if_pos hb).symm.trans z
        cases q
        subst hb
        exact ⟨ha, by rw [List.length_map]; exact hl, vs, _, rv, ha⟩
      · have q := (if_neg hb).symm.trans z
        cases q
    · by_cases hb : b = a
      · exact ⟨hb, hk, if_pos rfl⟩
      · exact absurd (if_neg hb) z
end
/-- the end of a law's row -/
theorem endG {l : PySem.W.OpenLaw} {n k : Nat} {q : Program} {loose : List Str} {XP : (Str → Option Value) → Heap → Prop} {YP : World → Heap → Prop} {d : DefRec} {K : Params → PySem.W.Frag} {CX : World → CXT} {sp : World → Sp} {x : Str}
    (hn : l.most = some n) (hn2 : n ≤ sizeLine) (hdf : d.params.defaults = []) (hr : Room k callerA) (hY : ∀ (w : World) (h : Heap), YP w h → (K w.params).In h)
    (F : ∀ (w : World) (mg : Str → Option Value) (fa : Addr) (h : Heap), (K w.params).In h → h.Ns mainGlobals mg → mg d.name = some (.ref fa) →
      ∃ fd : FuncData, (∀ (s : Shared) (u : Value), BindsTo s fd ⟨[u], []⟩ [(x, u)]) ∧ ∀ base : Heap, (K w.params).In base → base.Ns mainGlobals mg → FnG l.prog w (K w.params) mg base (CX w) k fa fd [x] (sp w))
    (hsp : ∀ (w : World) (H : Hp) (a : Addr) (ns : List Int), ns.length ≤ n → SqL (K w.params) H a (ns.map V.int) → sp w [.ref a] H (fun v _ => v = .bl true) fun _ _ _ => False)
    (hCX : ∀ (w : World) (H : Hp) (s : Shared) (e : Value) (s' : Shared), CX w [] H s (fun _ _ _ => False) e s' → False) : PySem.W.WalkO q loose XP YP l.row.toRowW d [] (fun f vs => PySem.call f vs) := by
  refine Att.attach_call hn hdf fun w s₀ s₁ mg mb fa o pm cd doc a vs ns G Y ho hd hcd hmg hobj hints hlen hg => ?_
  obtain ⟨fd, hb, hF⟩ := F w mg fa _ (hY w _ Y) G.T.g hmg
  exact lawCall (hY w _ Y) G.T.g G.T.b G.T.builtins G.T.nolimit hg hobj hints (Nat.le_trans hlen hn2) hr hF hb (fun H hS => hsp w H a ns hlen hS) fun H e s' => hCX w H s₁ e s'
end Lx
/-! texts repeated -/
namespace Lx
open PySem PySem.Spec L2
/-- the signs of a text, n times -/
def rep (x : Str) (n : Nat) : Str := ⟨((List.replicate n x.cps.toList).flatten).toArray⟩
theorem rep_list (x : Str) (n : Nat) : (rep x n).cps.toList = (List.replicate n x.cps.toList).flatten := rfl
theorem rep_len (x : Str) (n : Nat) : (rep x n).length = x.length * n := by
  show ((List.replicate n x.cps.toList).flatten).toArray.size = x.cps.size * n
  rw [List.size_toArray, List.length_flatten, List.map_replicate, List.sum_replicate_nat, Array.length_toList, Nat.mul_comm]
theorem rep_one (x : Str) : rep x 1 = x := by
  have e : (rep x 1).cps.toList = x.cps.toList := by simp [rep_list]
  exact Str.ext' (Array.toList_inj.mp e)
theorem rep_zero (x : Str) : rep x 0 = Str.empty := rfl
theorem fold_rep (a : Array Nat) : ∀ (n : Nat) (b : Array Nat), ((List.replicate n a).foldl (· ++ ·) b).toList = b.toList ++ (List.replicate n a.toList).flatten
  | 0, b => by simp
  | n + 1, b => by
    rw [List.replicate_succ, List.foldl_cons, fold_rep a n, List.replicate_succ, List.flatten_cons, Array.toList_append, List.append_assoc]
theorem rep_fold (x : Str) (n : Nat) : (⟨(List.replicate n x.cps).foldl (· ++ ·) #[]⟩ : Str) = rep x n := by
  have e : ((List.replicate n x.cps).foldl (· ++ ·) #[]).toList = (rep x n).cps.toList := by
    rw [fold_rep, rep_list]; rfl
  exact Str.ext' (Array.toList_inj.mp e)
theorem rep_empty (x : Str) (n : Nat) (h : x.length = 0) : rep x n = x := by
  have e : x.cps.toList = [] := List.eq_nil_of_length_eq_zero (by rw [Array.length_toList]; exact h)
  have e2 : (rep x n).cps.toList = x.cps.toList := by
    rw [rep_list, e]
    induction n with
    | zero => rfl
    | succ n ih => rw [List.replicate_succ, List.flatten_cons, ih]; rfl
  exact Str.ext' (Array.toList_inj.mp e2)
/-- text * k -/
def rRepS : R2 := fun x y H Q => ∃ (z : Str) (k : Int), x = .str z ∧ y = .int k ∧ 0 ≤ k ∧ k < 1000000000 ∧ z.length * k.toNat ≤ sizeLine ∧ Q (.str (rep z k.toNat)) H
theorem op_repS {X : Cx} : OpR X (binaryOp .Mult) rRepS := by
  intro pins s σ H x y v u Q I rx ry h
  obtain ⟨z, k, rfl, rfl, h0, h1, hz, q⟩ := h
  obtain ⟨t, rfl⟩ := rx
  obtain ⟨t', rfl⟩ := ry
  have hlong : PySem.Builtin.Str.tooLong (z.length * k.toNat) = false := by
    unfold PySem.Builtin.Str.tooLong
    exact decide_eq_false (by omega)
  refine P.mul_str (by rw [decide_eq_false (by omega), decide_eq_false (by omega)]; rfl) (fun hk _ => ?_) (fun _ _ => hlong) ?_
  · have e : (z.length : Int) * k ≤ 2 ^ 63 - 1 := by
      have e1 : (z.length : Int) * k = ((z.length * k.toNat : Nat) : Int) := by
        rw [Int.natCast_mul, Int.toNat_of_nonneg h0]
      have e2 : sizeLine ≤ 9223372036854775807 := by rw [sizeLine_eq]; decide
      rw [e1]
      omega
    have hkp : 0 < k := by omega
    have := Int.le_ediv_of_mul_le hkp e
    omega
  · by_cases hk : k < 1
    · rw [if_pos hk]
      have e : k.toNat = 0 := by omega
      rw [e, rep_zero] at q
      exact ⟨by decide, ⟨.str _, H, I.tok _, ⟨_, rfl⟩, q⟩⟩
    · rw [if_neg hk]
      by_cases h2 : (k == 1 || z.length == 0) = true
      · rw [if_pos h2]
        have e : rep z k.toNat = z := by
          rcases Bool.or_eq_true_iff.mp h2 with e | e
          · have e' : k.toNat = 1 := by have := beq_iff_eq.mp e; omega
            rw [e', rep_one]
          · exact rep_empty _ _ (beq_iff_eq.mp e)
        rw [e] at q
        exact ⟨.str _, H, I, ⟨_, rfl⟩, q⟩
      · rw [if_neg h2, rep_fold]
        exact ⟨by rw [rep_len]; exact hz, ⟨.str _, H, I.tok _, ⟨_, rfl⟩, q⟩⟩
end Lx
namespace Lx
open PySem PySem.Spec L2
/-! ### repr of data -/
structure Fit (d : PyData) : Prop where
  can : d.showable = true
  no : d.hasDict = false
  dep : d.depth ≤ 40
  len : d.shown.length ≤ sizeLine
/-- repr(x), x data -/
def rRepr (K : PySem.W.Frag) : List V → Hp → VK → Prop := fun xs H Q => ∃ x d, xs = [x] ∧ Dp K H x d ∧ Fit d ∧ Q (.str d.shown) H
theorem call_reprD {X : Cx} (hG : X.A.guards = some []) (hu : X.A.units + 64 < cLine) : CallR X (.builtin "repr") (rRepr X.K) := by
  intro pins s σ H xs us Q I r h
  obtain ⟨x, d, rfl, hd, F, q⟩ := h
  obtain ⟨u, rfl, r1⟩ := vals1 r
  obtain ⟨as, rd⟩ := Dp.reads I d x u hd r1
  have big : ∀ a : Addr, u = .ref a → wpAny (model X.prog X.w) X.A (call (.builtin "repr") [u]) (EP X pins σ Q) X.xe s := fun a e => by
    subst e
    exact repr_of_reads' rd F.can (PyData.noDict_hsm F.no) hG (by have := F.dep; omega) (fun _ _ e => e) (fun h' t tk kp => ⟨.str d.shown, H, I.kept (t' := tk) kp, ⟨t, rfl⟩, q⟩) F.len
  cases hd with
  | non =>
    cases r1
    exact P.repr_of_none ⟨.str _, H, I.tok _, ⟨_, rfl⟩, q⟩
  | bl b =>
    cases r1
    exact P.repr_of_bool ⟨.str _, H, I.tok _, ⟨_, rfl⟩, by cases b <;> exact q⟩
  | int i =>
    obtain ⟨t, rfl⟩ := r1
    exact P.repr_of_int (of_decide_eq_true F.can) ⟨.str _, H, I.tok _, ⟨_, rfl⟩, q⟩
  | str y =>
    obtain ⟨t, rfl⟩ := r1
    exact P.repr_of_str ⟨.str _, H, I.tok _, ⟨_, rfl⟩, q⟩ F.len
  | lst _ _ => exact big _ r1
  | tup _ _ => exact big _ r1
/-! ### which class is which -/
section
variable {K : PySem.W.Frag} {file : Str} {mg : Str → Option Value} {L C D : Addr} {nm qual nm2 qual2 : Str} {st st2 : Stmt}
theorem ErrC.some_ (T : ErrC K file mg L nm qual st C) : (PySem.W.clsIn K C).isSome = true := by
  obtain ⟨cd, e, _⟩ := T.chain
  rw [e]; rfl
theorem LineC.some_ (T : LineC K mg L) : (PySem.W.clsIn K L).isSome = true := by
  obtain ⟨n, q, N, bs, sn, sub, ab, col, dd, k0, k1, k2, k3, k5, hL⟩ := T.cls
  unfold PySem.W.clsIn
  rw [hL] <;> rfl
theorem kit_ref {b : Bool} (h1 : (PySem.W.clsIn K D).isSome = true) (h2 : PySem.W.typeIn K (.ref D) = some (.type "type")) (T : ErrC K file mg L nm qual st C) (h : (Value.ref C :: .ref L :: HandSPX.veTail).contains (.ref D) = b) : PySem.W.kitOne K (.ref C) (.ref D) = some b := by
  unfold PySem.W.kitOne
  by_cases e : C = D
  · subst e
    have z : (Value.ref C == Value.ref C) = true := by simp
    rw [if_pos z, ← h]
    simp
  · have z : ¬ (Value.ref C == Value.ref D) = true := by simpa using e
    rw [if_neg z]
    show (if ((PySem.W.clsIn K D).isSome && PySem.W.typeIn K (.ref D) == some (.type "type")) = true then PySem.W.subIn K (.ref C) (.ref D) else none) = some b
    rw [h1, h2, if_pos (by rfl)]
    exact (T.under _).trans (by rw [h])
theorem kit_err (T : ErrC K file mg L nm qual st C) (T2 : ErrC K file mg L nm2 qual2 st2 D) (hD : D ≠ L) : PySem.W.kitOne K (.ref C) (.ref D) = some (decide (C = D)) := by
  refine kit_ref T2.some_ T2.ty T ?_
  rw [List.contains_cons, List.contains_cons]
  have e1 : (Value.ref D == Value.ref L) = false := by simpa using hD
  have e2 : List.contains HandSPX.veTail (Value.ref D) = false := by rfl
  rw [e1, e2]
  by_cases e : C = D
  · subst e; simp
  · have z : (Value.ref D == Value.ref C) = false := by simpa using Ne.symm e
    rw [z, decide_eq_false e]; rfl
theorem kit_line (TL : LineC K mg L) (T : ErrC K file mg L nm qual st C) : PySem.W.kitOne K (.ref C) (.ref L) = some true := kit_ref TL.some_ TL.ty T (by simp)
theorem kit_ve (T : ErrC K file mg L nm qual st C) : PySem.W.kitOne K (.ref C) (.type "ValueError") = some true := by
  unfold PySem.W.kitOne
  rw [if_neg (by simp)]
  show (if PySem.W.kitMeta "ValueError" = true then PySem.W.subIn K (.ref C) (.type "ValueError") else none) = some true
  rw [if_pos (by decide +kernel)]
  exact (T.under _).trans (by rfl)
end
/-! ### data that repr can write -/
/-- ints below 2 ^ 400, texts of plain signs -/
def small : PyData → Bool
  | .none | .bool _ => true
  | .int i => decide (i.natAbs < 2 ^ 400)
  | .str x => x.cps.toList.all fun c => decide (c < 128)
  | .list xs | .tuple xs => smallAll xs
  | .dict _ => false
where smallAll : List PyData → Bool
  | [] => true
  | x :: xs => small x && smallAll xs
theorem int_log {i : Int} (h : i.natAbs < 2 ^ 400) : i.natAbs.log2 < 400 := PySem.Flt.log2_lt_of (by decide) h
theorem int_shown {i : Int} (h : i.natAbs < 2 ^ 400) : (PyData.shown (.int i)).length ≤ 401 := by
  have e := int_text_length_le (k := 400) (by decide) (int_log h)
  show (Str.ofString (toString i)).length ≤ 401
  rw [ofString_length]
  omega
mutual
theorem small_can : ∀ d : PyData, small d = true → d.showable = true
  | .none, _ => rfl
  | .bool _, _ => rfl
  | .int i, h => by
    have e := int_log (of_decide_eq_true (show decide (i.natAbs < 2 ^ 400) = true by simpa only [small] using h))
    simp only [PyData.showable]
    exact decide_eq_true (by omega)
  | .str _, _ => rfl
  | .list xs, h => by
    simp only [PyData.showable]
    exact small_canAll xs (by simpa only [small] using h)
  | .tuple xs, h => by
    simp only [PyData.showable]
    exact small_canAll xs (by simpa only [small] using h)
  | .dict _, h => by simp [small] at h
theorem small_canAll : ∀ xs : List PyData, small.smallAll xs = true → PyData.showableAll xs = true
  | [], _ => rfl
  | x :: xs, h => by
    have h' : small x = true ∧ small.smallAll xs = true := by simpa only [small.smallAll, Bool.and_eq_true] using h
    simp only [PyData.showableAll, Bool.and_eq_true]
    exact ⟨small_can x h'.1, small_canAll xs h'.2⟩
end
mutual
theorem small_no : ∀ d : PyData, small d = true → d.hasDict = false
  | .none, _ => rfl
  | .bool _, _ => rfl
  | .int i, h => rfl
  | .str _, _ => rfl
  | .list xs, h => by
    simp only [PyData.hasDict]
    exact small_noAll xs (by simpa only [small] using h)
  | .tuple xs, h => by
    simp only [PyData.hasDict]
    exact small_noAll xs (by simpa only [small] using h)
  | .dict _, h => by simp [small] at h
theorem small_noAll : ∀ xs : List PyData, small.smallAll xs = true → PyData.hasDictAll xs = false
  | [], _ => rfl
  | x :: xs, h => by
    have h' : small x = true ∧ small.smallAll xs = true := by simpa only [small.smallAll, Bool.and_eq_true] using h
    simp only [PyData.hasDictAll, Bool.or_eq_false_iff]
    exact ⟨small_no x h'.1, small_noAll xs h'.2⟩
end
mutual
theorem small_leaves : ∀ d : PyData, small d = true → d.leavesShort 401 = true
  | .none, _ => rfl
  | .bool _, _ => rfl
  | .int i, h => by
    have e := int_shown (of_decide_eq_true (show decide (i.natAbs < 2 ^ 400) = true by simpa only [small] using h))
    simp only [PyData.leavesShort]
    exact decide_eq_true e
  | .str x, h => by
    simp only [PyData.leavesShort, List.all_eq_true, decide_eq_true_eq]
    simp only [small, List.all_eq_true, decide_eq_true_eq] at h
    intro c hc
    exact Nat.lt_of_lt_of_le (h c hc) (by decide)
  | .list xs, h => by
    simp only [PyData.leavesShort]
    exact small_leavesAll xs (by simpa only [small] using h)
  | .tuple xs, h => by
    simp only [PyData.leavesShort]
    exact small_leavesAll xs (by simpa only [small] using h)
  | .dict _, h => by simp [small] at h
theorem small_leavesAll : ∀ xs : List PyData, small.smallAll xs = true → PyData.leavesShortAll 401 xs = true
  | [], _ => rfl
  | x :: xs, h => by
    have h' : small x = true ∧ small.smallAll xs = true := by simpa only [small.smallAll, Bool.and_eq_true] using h
    simp only [PyData.leavesShortAll, Bool.and_eq_true]
    exact ⟨small_leaves x h'.1, small_leavesAll xs h'.2⟩
end
theorem fit_small {d : PyData} (h : small d = true) (hd : d.depth ≤ 40) (hb : d.bulk ≤ 40000) : Fit d := by
  refine ⟨small_can d h, small_no d h, hd, ?_⟩
  have e := PyData.shown_le_bulk 401 (by decide) d (small_leaves d h)
  have e2 : (401 + 2) * d.bulk ≤ 403 * 40000 := Nat.mul_le_mul (by decide) hb
  rw [sizeLine_eq]
  omega
end Lx
namespace Lw
open PySem PySem.Spec L2
def topS (i : Nat) : Stmt := PySem.Challenge.pw_lineends_k01_errors_and_their_values.main.body.getD i (.Pass ⟨0, 0, 0, 0⟩)
abbrev sRng : Stmt := topS 11
abbrev sDraw : Stmt := topS 12
/-! ### numbers of any size -/
/-- i ** j: the power has at most some hundred million bits -/
def CPowW (i j : Int) : Prop := 0 ≤ j ∧ j ≤ 64 ∧ i.natAbs < 2 ^ 200000
theorem op_powW {X : Cx} : OpR X (binaryOp .Pow) (rI CPowW fun i j => .int (i ^ j.toNat)) := opI fun i j _ _ _ _ _ hc q => by
  refine PyProof.Rows.pow_int hc.1 ?_ q
  have h1 := PySem.Flt.log2_lt_of (by decide : 0 < 200000) hc.2.2
  have h2 : Builtin.Int.intBits i ≤ i.natAbs.log2 + 1 := by
    unfold Builtin.Int.intBits
    split <;> omega
  have h3 : (Builtin.Int.intBits i : Int) ≤ 200000 := by omega
  have h4 := hc.2.1
  have h5 := hc.1
  have h6 : (Builtin.Int.intBits i : Int) * j ≤ 200000 * 64 := by
    refine Int.le_trans (Int.mul_le_mul_of_nonneg_right h3 h5) (Int.mul_le_mul_of_nonneg_left h4 (by decide))
  exact Int.le_trans h6 (by decide)
theorem same_upd {H : Hp} {p : Addr} {o : HO} (h : H p = none) : Same H (upd H p o) := fun b x e => by
  rw [upd_ne (ne_of_none e h)]
  exact e
/-! ### the drawing list -/
def RngAt (H : Hp) (r : Addr) (n : Nat) : Prop := ∃ d s c : Int, H r = some (.lst [.int d, .int s, .int c]) ∧ 0 ≤ d ∧ 0 ≤ s ∧ s < 2305843009213693952 ∧ 0 ≤ c ∧ c ≤ n
def But (r : Addr) (H H' : Hp) : Prop := ∀ b, b ≠ r → H' b = H b
theorem But.upd {H : Hp} {r : Addr} {o : HO} : But r H (upd H r o) := fun b h => upd_ne h
theorem But.trans {H H1 H2 : Hp} {r : Addr} (a : But r H H1) (b : But r H1 H2) : But r H H2 := fun c h => (b c h).trans (a c h)
theorem pow10 : (10 : Int) ^ (60 : Int).toNat = 1000000000000000000000000000000000000000000000000000000000000 := by decide +kernel
theorem fm {a b : Int} (hb : 0 < b) : 0 ≤ a.fmod b ∧ a.fmod b < b := by
  rw [Int.fmod_eq_emod_of_nonneg a (Int.le_of_lt hb)]
  exact ⟨Int.emod_nonneg a (by omega), Int.emod_lt_of_pos a hb⟩
theorem n60 : (10 : Int) ^ Int.toNat 60 ≠ 0 := by decide +kernel
theorem n_c : (2305843009213693921 : Int) ≠ 0 := by decide
theorem n_m : (2305843009213693951 : Int) ≠ 0 := by decide
abbrev B60 : Int := 1000000000000000000000000000000000000000000000000000000000000
theorem dig_more {d f : Int} {i : Nat} (h : d < B60 ^ i) (hf : f < B60) : d * B60 + f < B60 ^ (i + 1) := by
  have h1 : (d + 1) * B60 ≤ B60 ^ i * B60 := Int.mul_le_mul_of_nonneg_right (by omega) (by decide)
  rw [Int.add_mul, Int.one_mul] at h1
  rw [Int.pow_succ]
  omega
theorem dig_keep {d : Int} {i : Nat} (h : d < B60 ^ i) : d < B60 ^ (i + 1) := by
  have h1 : (0 : Int) < B60 ^ i := Int.pow_pos (by decide)
  have h2 : B60 ^ i * 1 ≤ B60 ^ i * B60 := Int.mul_le_mul_of_nonneg_left (by decide) (by omega)
  rw [Int.pow_succ]
  omega
theorem B60_mono (i : Nat) : ∀ n : Nat, B60 ^ i ≤ B60 ^ (i + n)
  | 0 => Int.le_refl _
  | n + 1 => by
    have h1 := B60_mono i n
    have h2 : (0 : Int) < B60 ^ (i + n) := Int.pow_pos (by decide)
    have h3 : B60 ^ (i + n) * 1 ≤ B60 ^ (i + n) * B60 := Int.mul_le_mul_of_nonneg_left (by decide) (by omega)
    rw [← Nat.add_assoc, Int.pow_succ]
    omega
theorem dig_small {d : Int} {i : Nat} (h0 : 0 ≤ d) (h : d < B60 ^ i) (hi : i ≤ 63) : d.natAbs < 2 ^ 12700 := by
  have h1 : B60 ^ i ≤ B60 ^ 63 := by
    have e := B60_mono i (63 - i)
    rw [Nat.add_sub_cancel' hi] at e
    exact e
  have h2 : B60 ^ 63 < 2 ^ 12700 := by decide +kernel
  have h3 : (d.natAbs : Int) < ((2 ^ 12700 : Nat) : Int) := by
    rw [Int.natAbs_of_nonneg h0]
    exact Int.lt_of_lt_of_le h (Int.le_trans h1 (Int.le_of_lt (by rw [Int.natCast_pow]; exact h2)))
  exact Int.ofNat_lt.mp h3
def spRng (K : PySem.W.Frag) : Sp := fun vs H Q _ => ∃ (a : Addr) (ns : List Int), vs = [.ref a] ∧ SqL K H a (ns.map V.int) ∧ ns.length ≤ 63 ∧ ∀ H' p, Same H H' → H p = none → RngAt H' p 0 → Q (.ref p) H'
def spDraw : Sp := fun vs H Q _ => ∃ (r : Addr) (n : Nat) (m : Int), vs = [.ref r, .int m] ∧ RngAt H r n ∧ n < 1000000000 ∧ 0 < m ∧ m.natAbs < 2 ^ 4000 ∧ ∀ v H', 0 ≤ v → v < m → RngAt H' r (n + 1) → But r H H' → Q (.int v) H'
theorem scRng : FnScope ["script", "digits", "seed", "cell", "far"] ["script"] (defScope sRng) := ⟨rfl, rfl, rfl, by decide +kernel, rfl, by decide +kernel, by decide +kernel⟩
theorem scDraw : FnScope ["rng", "limit", "found", "mixed"] ["rng", "limit"] (defScope sDraw) := ⟨rfl, rfl, rfl, by decide +kernel, rfl, by decide +kernel, by decide +kernel⟩
section
variable {P : Program} {w : World} {K : PySem.W.Frag} {mg : Str → Option Value} {base : Heap}
theorem ok_rng {f : Addr} {fd : FuncData} {k : Nat} (F : Fun K "_law_rng" "_law_rng" sRng f fd) (mAbs : mg "abs" = none) : FnOk P w K mg base CX0 (k + 1) f fd ["script"] (spRng K) := by
  refine F.ok scRng (fun vs H Q E h => ?_) (fun cdv A outer s H vs Q E hr h => ?_)
  · obtain ⟨a, ns, rfl, _⟩ := h
    rfl
  · obtain ⟨a, ns, rfl, hS, hlen, q⟩ := h
    refine ⟨_, pss_cons (ps_asg (pe_tup (pa_cons pe_int (pa_cons pe_int pa_nil))) (pg_tup (by rfl) (pgs_cons (pg_name (i := 1) scRng.nd rfl (.inl rfl)) (pgs_cons (pg_name (i := 2) scRng.nd rfl (.inl rfl)) pgs_nil))))
      (pss_cons (ps_for PassesOwn.never rfl (pi_list (pe_slice sl_list (pv 0) po_none (po_some pe_int))) (pg_name (i := 3) scRng.nd rfl (.inl rfl))
        (pss_cons (ps_set (i := 4) scRng.nd rfl (.inl rfl) (pe_callB call_abs (by rfl) mAbs (by decide +kernel) (pa_cons (pv 3) pa_nil)))
        (pss_cons (ps_if (pt_cmpR op_ge (pv 4) (pe_op op_pow pe_int pe_int) (nomark _)) (pss_one (ps_set (i := 1) scRng.nd rfl (.inl rfl) (pe_op op_add (pe_op op_mulW (pv 1) (pe_op op_pow pe_int pe_int)) (pe_op op_modN (pv 4) (pe_op op_pow pe_int pe_int))))) pss_nil)
        (pss_one (ps_set (i := 2) scRng.nd rfl (.inl rfl) (pe_op op_modN (pe_op op_add (pe_op op_add (pe_op op_mul (pv 2) pe_int) (pe_op op_modN (pv 3) pe_int)) pe_int) pe_int))))))
      (pss_one (ps_ret (pe_lst (pa_cons (pv 1) (pa_cons (pv 2) (pa_cons pe_int pa_nil))))))), ?_⟩
    refine ⟨by show 2 ≤ sizeLine; decide, fun p0 np0 => ?_⟩
    refine ⟨p0, _, rfl, .inl (.inl upd_same), rfl, _, _, rfl, _, _, rfl, rfl, ?_⟩
    have s0 : Same H (upd H p0 (.tup [.int 0, .int 88675123])) := same_upd np0
    refine ⟨.ref a, rfl, 63, rfl, a, _, rfl, s0.seq hS, fun p np => ?_⟩
    have s1 := s0.trans (same_upd (o := .lst (cutV (ns.map V.int) none (some 63))) np)
    have hall : ∀ (i : Nat) x, (cutV (ns.map V.int) none (some 63))[i]? = some x → ∃ z : Int, x = .int z := fun i x hx => by
      have m1 := List.mem_of_getElem? hx
      unfold cutV at m1
      have m2 := List.mem_of_mem_drop (List.mem_of_mem_take m1)
      obtain ⟨z, _, e⟩ := List.mem_map.mp m2
      exact ⟨z, e.symm⟩
    have hcl : (cutV (ns.map V.int) none (some 63)).length ≤ 63 := Nat.le_trans (cutV_length _ _ _) (by rw [List.length_map]; exact hlen)
    refine ⟨p, rfl, ⟨_, .inl (.inl upd_same)⟩, for_list (K := K) (a := p) (xs := cutV (ns.map V.int) none (some 63)) (fun i σ H' => H' = upd (upd H p0 (.tup [.int 0, .int 88675123])) p (.lst (cutV (ns.map V.int) none (some 63))) ∧
      ∃ (d s' : Int) (y3 y4 : Option V), σ = [some (.ref a), some (.int d), some (.int s'), y3, y4] ∧ 0 ≤ d ∧ d < B60 ^ i ∧ 0 ≤ s' ∧ s' < 2305843009213693951)
      ⟨rfl, 0, 88675123, none, none, rfl, by decide, by decide, by decide, by decide⟩ (fun i σ H' _ hP => by rw [hP.1]; exact .inl (.inl upd_same)) ?_ ?_⟩
    · rintro i x σ H' hi ⟨rfl, d, s', y3, y4, rfl, hd0, hd, hs0, hs1⟩
      obtain ⟨z, rfl⟩ := hall i x hi
      have hil : i < 63 := Nat.lt_of_lt_of_le (List.getElem?_eq_some_iff.mp hi).1 hcl
      refine ⟨.int z, rfl, z, rfl, ?_⟩
      refine ⟨_, rfl, _, _, rfl, rfl, ⟨by decide, by decide, by decide⟩, _, _, rfl, rfl, _, rfl, ite2 (fun c => ?_) (fun c => ?_)⟩
      · refine ⟨_, rfl, _, _, rfl, rfl, ⟨by decide, by decide, by decide⟩, _, _, rfl, rfl, ?_, ?_⟩
        · exact wide_mul (a := 12700) (b := 200) (dig_small hd0 hd (by omega)) (by decide) (by decide) (by decide) (by decide)
        · refine ⟨_, rfl, _, _, rfl, rfl, ⟨by decide, by decide, by decide⟩, _, _, rfl, rfl, n60, _, _, rfl, rfl, ?_⟩
          have f1 := fm (a := if z < 0 then -z else z) (show (0 : Int) < B60 by decide)
          refine ⟨_, rfl, _, _, rfl, rfl, .inl ⟨by omega, by omega⟩, _, rfl, _, _, rfl, rfl, n_c, _, _, rfl, rfl, _, _, rfl, rfl, _, _, rfl, rfl, n_m, rfl, d * B60 + (if z < 0 then -z else z).fmod B60, _, _, _, rfl, ?_, dig_more hd f1.2, ?_⟩
          · have := Int.mul_nonneg hd0 (show (0 : Int) ≤ B60 by decide)
            omega
          · exact fm (by decide)
      · refine ⟨_, rfl, _, _, rfl, rfl, .inl ⟨by omega, by omega⟩, _, rfl, _, _, rfl, rfl, n_c, _, _, rfl, rfl, _, _, rfl, rfl, _, _, rfl, rfl, n_m, rfl, d, _, _, _, rfl, hd0, dig_keep hd, ?_⟩
        exact fm (by decide)
    · rintro σ H' ⟨rfl, d, s', y3, y4, rfl, hd0, hd, hs0, hs1⟩
      refine ⟨_, rfl, _, rfl, (by show 3 ≤ sizeLine; decide), fun l nl => ?_⟩
      exact q _ l (s1.trans (same_upd nl)) (s1.free nl) ⟨d, s', 0, upd_same, hd0, hs0, by omega, by decide, by decide⟩
end
end Lw
namespace Lw
open PySem PySem.Spec L2
section
variable {P : Program} {w : World} {K : PySem.W.Frag} {mg : Str → Option Value} {base : Heap}
theorem n_p1 : (162259276829213363391578010288127 : Int) ≠ 0 := by decide
theorem n_p2 : (170141183460469231731687303715884105727 : Int) ≠ 0 := by decide
theorem pow_ok {x : Int} (h0 : 0 ≤ x) (h : x < 2 ^ 200) : CPowW x 3 := ⟨by decide, by decide, by
  have h1 : (x.natAbs : Int) < ((2 ^ 200 : Nat) : Int) := by
    rw [Int.natAbs_of_nonneg h0]
    exact h
  exact Nat.lt_of_lt_of_le (Int.ofNat_lt.mp h1) (Nat.pow_le_pow_right (by decide) (by decide))⟩
theorem ok_draw {f : Addr} {fd : FuncData} {k : Nat} (F : Fun K "_law_draw" "_law_draw" sDraw f fd) : FnOk P w K mg base CX0 (k + 1) f fd ["rng", "limit"] spDraw := by
  refine F.ok scDraw (fun vs H Q E h => ?_) (fun cdv A outer s H vs Q E hr h => ?_)
  · obtain ⟨r, n, m, rfl, _⟩ := h
    rfl
  · obtain ⟨r, n, m, rfl, ⟨d, s', c, hL, hd, hs0, hs1, hc0, hc1⟩, hn, hm0, hm1, q⟩ := h
    refine ⟨_, pss_cons (ps_if (pt_cmpR op_gt (pe_ix ix_list (pv 0) pe_int (fun _ _ => rfl)) pe_int (nomark _))
        (pss_cons (ps_set (i := 2) scDraw.nd rfl (.inl rfl) (pe_op op_modN (pe_ix ix_list (pv 0) pe_int (fun _ _ => rfl)) (pv 1)))
        (pss_cons (ps_asg (pe_op op_fdivW (pe_ix ix_list (pv 0) pe_int (fun _ _ => rfl)) (pv 1)) (pg_sub (pv 0) pe_int set_list))
        (pss_one (ps_ret (pv 2))))) pss_nil)
      (pss_cons (ps_asg (pe_op op_add (pe_ix ix_list (pv 0) pe_int (fun _ _ => rfl)) pe_int) (pg_sub (pv 0) pe_int set_list))
      (pss_cons (ps_set (i := 3) scDraw.nd rfl (.inl rfl) (pe_op op_modN (pe_op op_powW (pe_op op_add (pe_ix ix_list (pv 0) pe_int (fun _ _ => rfl)) (pe_op op_mul pe_int (pe_ix ix_list (pv 0) pe_int (fun _ _ => rfl)))) pe_int) pe_int))
      (pss_cons (ps_set (i := 3) scDraw.nd rfl (.inl rfl) (pe_op op_modN (pe_op op_powW (pe_op op_add (pv 3) (pe_op op_mul pe_int (pe_ix ix_list (pv 0) pe_int (fun _ _ => rfl)))) pe_int) pe_int))
      (pss_one (ps_ret (pe_op op_modN (pe_op op_fdiv (pv 3) pe_int) (pv 1))))))), ?_⟩
    have hmn : m ≠ 0 := by omega
    refine ⟨_, rfl, r, _, 0, .int d, rfl, rfl, .inl (.inl hL), atI_nat (j := 0) rfl, _, _, rfl, rfl, _, rfl, ite2 (fun z => ?_) (fun z => ?_)⟩
    · refine ⟨_, rfl, r, _, 0, .int d, rfl, rfl, .inl (.inl hL), atI_nat (j := 0) rfl, _, rfl, _, _, rfl, rfl, hmn, ?_⟩
      refine ⟨_, rfl, r, _, 0, .int d, rfl, rfl, .inl (.inl hL), atI_nat (j := 0) rfl, _, rfl, _, _, rfl, rfl, wide_div hm0 hm1 (by decide) (by decide), ?_⟩
      refine ⟨_, rfl, r, _, 0, 0, rfl, rfl, hL, rfl, ?_⟩
      refine ⟨_, rfl, ?_⟩
      have f1 := fm (a := d) hm0
      exact q _ _ f1.1 f1.2 ⟨d / m, s', c, upd_same, Int.ediv_nonneg hd (by omega), hs0, hs1, hc0, by omega⟩ But.upd
    · refine ⟨_, rfl, r, _, 2, .int c, rfl, rfl, .inl (.inl hL), atI_nat (j := 2) rfl, _, _, rfl, rfl, ?_⟩
      refine ⟨_, rfl, r, _, 2, 2, rfl, rfl, hL, rfl, ?_⟩
      have hL2 : upd H r (.lst ([V.int d, .int s', .int c].set 2 (.int (c + 1)))) r = some (.lst [.int d, .int s', .int (c + 1)]) := upd_same
      refine ⟨_, rfl, r, _, 1, .int s', rfl, rfl, .inl (.inl hL2), atI_nat (j := 1) rfl, _, rfl, r, _, 2, .int (c + 1), rfl, rfl, .inl (.inl hL2), atI_nat (j := 2) rfl, _, _, rfl, rfl, .inl ⟨by decide, by decide⟩, _, _, rfl, rfl, ?_⟩
      refine ⟨_, _, rfl, rfl, pow_ok (by omega) (by omega), _, _, rfl, rfl, n_p1, ?_⟩
      have f1 := fm (a := (s' + 998244353 * (c + 1)) ^ Int.toNat 3) (show (0 : Int) < 162259276829213363391578010288127 by decide)
      refine ⟨_, rfl, _, rfl, r, _, 2, .int (c + 1), rfl, rfl, .inl (.inl hL2), atI_nat (j := 2) rfl, _, _, rfl, rfl, .inl ⟨by decide, by decide⟩, _, _, rfl, rfl, _, _, rfl, rfl, pow_ok (by omega) (by omega), _, _, rfl, rfl, n_p2, ?_⟩
      refine ⟨_, rfl, _, _, rfl, rfl, ⟨by decide, by decide⟩, _, rfl, _, _, rfl, rfl, hmn, ?_⟩
      have f2 := fm (a := ((s' + 998244353 * (c + 1)) ^ Int.toNat 3 |>.fmod 162259276829213363391578010288127) + 32452843 * (c + 1) |> fun x => (x ^ Int.toNat 3).fmod 170141183460469231731687303715884105727 / 1048576) hm0
      exact q _ _ f2.1 f2.2 ⟨d, s', c + 1, hL2, hd, hs0, hs1, by omega, by omega⟩ But.upd
end
end Lw
namespace Lw
open PySem PySem.Spec L2 Lx
abbrev sFlags : Stmt := topS 13
abbrev sMade : Stmt := topS 14
abbrev sLaw : Stmt := topS 15
abbrev sIni (i : Nat) : Stmt := inClass (topS (2 + i)) 0
/-- the eight classes and their base -/
structure ErrTxt (K : PySem.W.Frag) (file : Str) (mg : Str → Option Value) (L : Addr) (C : Nat → Addr) : Prop where
  line : LineC K mg L
  e0 : ErrC K file mg L "InvalidChain" "InvalidChain.__init__" (sIni 0) (C 0)
  e1 : ErrC K file mg L "InvalidRun" "InvalidRun.__init__" (sIni 1) (C 1)
  e2 : ErrC K file mg L "InvalidForm" "InvalidForm.__init__" (sIni 2) (C 2)
  e3 : ErrC K file mg L "InvalidNumber" "InvalidNumber.__init__" (sIni 3) (C 3)
  e4 : ErrC K file mg L "InvalidPlace" "InvalidPlace.__init__" (sIni 4) (C 4)
  e5 : ErrC K file mg L "UnknownName" "UnknownName.__init__" (sIni 5) (C 5)
  e6 : ErrC K file mg L "NothingToUndo" "NothingToUndo.__init__" (sIni 6) (C 6)
  e7 : ErrC K file mg L "Unreadable" "Unreadable.__init__" (sIni 7) (C 7)
  inj : ∀ i j, i < 8 → j < 8 → C i = C j → i = j
  ne : ∀ i, i < 8 → C i ≠ L
theorem ErrTxt.at {K : PySem.W.Frag} {file : Str} {mg : Str → Option Value} {L : Addr} {C : Nat → Addr} (T : ErrTxt K file mg L C) : ∀ i, i < 8 → ∃ nm qual st, ErrC K file mg L nm qual st (C i)
  | 0, _ => ⟨_, _, _, T.e0⟩
  | 1, _ => ⟨_, _, _, T.e1⟩
  | 2, _ => ⟨_, _, _, T.e2⟩
  | 3, _ => ⟨_, _, _, T.e3⟩
  | 4, _ => ⟨_, _, _, T.e4⟩
  | 5, _ => ⟨_, _, _, T.e5⟩
  | 6, _ => ⟨_, _, _, T.e6⟩
  | 7, _ => ⟨_, _, _, T.e7⟩
  | n + 8, h => absurd h (by omega)
theorem ErrTxt.kit {K : PySem.W.Frag} {file : Str} {mg : Str → Option Value} {L : Addr} {C : Nat → Addr} (T : ErrTxt K file mg L C) {i j : Nat} (hi : i < 8) (hj : j < 8) : PySem.W.kitOne K (.ref (C i)) (.ref (C j)) = some (decide (i = j)) := by
  obtain ⟨_, _, _, Ti⟩ := T.at i hi
  obtain ⟨_, _, _, Tj⟩ := T.at j hj
  rw [kit_err Ti Tj (T.ne j hj)]
  by_cases e : i = j
  · subst e; simp
  · have z : C i ≠ C j := fun q => e (T.inj i j hi hj q)
    rw [decide_eq_false e, decide_eq_false z]
theorem scFlags : FnScope ["error", "found"] ["error"] (defScope sFlags) := ⟨rfl, rfl, rfl, by decide +kernel, rfl, by decide +kernel, by decide +kernel⟩
theorem scMade : FnScope ["number", "what", "by_name"] ["number", "what", "by_name"] (defScope sMade) := ⟨rfl, rfl, rfl, by decide +kernel, rfl, by decide +kernel, by decide +kernel⟩
/-- the flags of the error number n -/
def flags (n : Nat) : List Bool := [decide (n = 0), decide (n = 1), decide (n = 2), decide (n = 3), decide (n = 4), decide (n = 5), decide (n = 6), decide (n = 7)]
def spFlags (C : Nat → Addr) : Sp := fun vs H Q _ => ∃ (e d : Addr) (n : Nat) (v : V), vs = [.ref e] ∧ n < 8 ∧ H e = some (errO e (C n) d) ∧ H d = some (.xd (vf v)) ∧
  ∀ H' p, Same H H' → H p = none → H' p = some (.lst ((flags n).map V.bl)) → Q (.ref p) H'
def spMade (C : Nat → Addr) : Sp := fun vs H Q _ => ∃ (n : Nat) (v : V) (b : Bool), vs = [.int n, v, .bl b] ∧ n < 8 ∧ ∀ d e : Addr, H d = none → H e = none → d ≠ e → Q (.ref e) (upd (upd H d (.xd (vf v))) e (errO e (C n) d))
section
variable {P : Program} {w : World} {K : PySem.W.Frag} {mg : Str → Option Value} {base : Heap} {L : Addr} {C : Nat → Addr}
theorem ok_made {f : Addr} {fd : FuncData} (T : ErrTxt K P.main.file mg L C) (F : Fun K "_law_made" "_law_made" sMade f fd) (ht : (P.main.scope.names.lookup ("super" : Str)).isSome = false) (gs : mg "super" = none) : FnOk P w K mg base CX0 3 f fd ["number", "what", "by_name"] (spMade C) := by
  refine F.ok scMade (fun vs H Q E h => ?_) (fun cdv A outer s H vs Q E hr h => ?_)
  · obtain ⟨n, v, b, rfl, _⟩ := h
    rfl
  · obtain ⟨n, v, b, rfl, hn, q⟩ := h
    refine ⟨_, (pss_cons (ps_if (pt_cmpR op_eq (pv 0) pe_int (nomark _)) (pss_one (ps_ret (pe_ifExp (pt_val (pv 2)) (pe_errK T.line T.e0 hr ht gs (by rfl) (pv 1)) (pe_err T.line T.e0 hr ht gs (by rfl) (pv 1))))) pss_nil)
      (pss_cons (ps_if (pt_cmpR op_eq (pv 0) pe_int (nomark _)) (pss_one (ps_ret (pe_ifExp (pt_val (pv 2)) (pe_errK T.line T.e1 hr ht gs (by rfl) (pv 1)) (pe_err T.line T.e1 hr ht gs (by rfl) (pv 1))))) pss_nil)
      (pss_cons (ps_if (pt_cmpR op_eq (pv 0) pe_int (nomark _)) (pss_one (ps_ret (pe_ifExp (pt_val (pv 2)) (pe_errK T.line T.e2 hr ht gs (by rfl) (pv 1)) (pe_err T.line T.e2 hr ht gs (by rfl) (pv 1))))) pss_nil)
      (pss_cons (ps_if (pt_cmpR op_eq (pv 0) pe_int (nomark _)) (pss_one (ps_ret (pe_ifExp (pt_val (pv 2)) (pe_errK T.line T.e3 hr ht gs (by rfl) (pv 1)) (pe_err T.line T.e3 hr ht gs (by rfl) (pv 1))))) pss_nil)
      (pss_cons (ps_if (pt_cmpR op_eq (pv 0) pe_int (nomark _)) (pss_one (ps_ret (pe_ifExp (pt_val (pv 2)) (pe_errK T.line T.e4 hr ht gs (by rfl) (pv 1)) (pe_err T.line T.e4 hr ht gs (by rfl) (pv 1))))) pss_nil)
      (pss_cons (ps_if (pt_cmpR op_eq (pv 0) pe_int (nomark _)) (pss_one (ps_ret (pe_ifExp (pt_val (pv 2)) (pe_errK T.line T.e5 hr ht gs (by rfl) (pv 1)) (pe_err T.line T.e5 hr ht gs (by rfl) (pv 1))))) pss_nil)
      (pss_cons (ps_if (pt_cmpR op_eq (pv 0) pe_int (nomark _)) (pss_one (ps_ret (pe_ifExp (pt_val (pv 2)) (pe_errK T.line T.e6 hr ht gs (by rfl) (pv 1)) (pe_err T.line T.e6 hr ht gs (by rfl) (pv 1))))) pss_nil)
      (pss_one (ps_ret (pe_ifExp (pt_val (pv 2)) (pe_errK T.line T.e7 hr ht gs (by rfl) (pv 1)) (pe_err T.line T.e7 hr ht gs (by rfl) (pv 1)))))))))))), ?_⟩
    have leaf : ∀ m : Nat, n = m → tRet (tIf (tB (tVar 2)) (tErr (C m) (tVar 1)) (tErr (C m) (tVar 1))) { nx := fun _ H' => Q V.non H', rt := Q } [some (.int n), some v, some (.bl b)] H := fun m e => by
      subst e
      cases b with
      | false => exact ⟨_, rfl, _, rfl, iteF ⟨_, rfl, q⟩⟩
      | true => exact ⟨_, rfl, _, rfl, iteT ⟨_, rfl, q⟩⟩
    have nk : ∀ m : Nat, decide (V.int (n : Int) = V.int (m : Int)) = true → n = m := fun m c => Int.ofNat.inj (V.int.inj (of_decide_eq_true c))
    have nn : ∀ m : Nat, ¬ decide (V.int (n : Int) = V.int (m : Int)) = true → n ≠ m := fun m c e => c (decide_eq_true (by rw [e]))
    refine ⟨_, rfl, rfl, _, rfl, ite2 (fun c => leaf 0 (nk 0 c)) (fun c0 => ?_)⟩
    have d0 := nn 0 c0
    refine ⟨_, rfl, rfl, _, rfl, ite2 (fun c => leaf 1 (nk 1 c)) (fun c1 => ?_)⟩
    have d1 := nn 1 c1
    refine ⟨_, rfl, rfl, _, rfl, ite2 (fun c => leaf 2 (nk 2 c)) (fun c2 => ?_)⟩
    have d2 := nn 2 c2
    refine ⟨_, rfl, rfl, _, rfl, ite2 (fun c => leaf 3 (nk 3 c)) (fun c3 => ?_)⟩
    have d3 := nn 3 c3
    refine ⟨_, rfl, rfl, _, rfl, ite2 (fun c => leaf 4 (nk 4 c)) (fun c4 => ?_)⟩
    have d4 := nn 4 c4
    refine ⟨_, rfl, rfl, _, rfl, ite2 (fun c => leaf 5 (nk 5 c)) (fun c5 => ?_)⟩
    have d5 := nn 5 c5
    refine ⟨_, rfl, rfl, _, rfl, ite2 (fun c => leaf 6 (nk 6 c)) (fun c6 => ?_)⟩
    have d6 := nn 6 c6
    exact leaf 7 (by omega)
end
end Lw
namespace Lw
open PySem PySem.Spec L2 Lx
section
variable {P : Program} {w : World} {K : PySem.W.Frag} {mg : Str → Option Value} {base : Heap} {L : Addr} {C : Nat → Addr}
theorem ok_flags {f : Addr} {fd : FuncData} {k : Nat} (T : ErrTxt K P.main.file mg L C) (F : Fun K "_law_flags" "_law_flags" sFlags f fd) (mi : mg "isinstance" = none) : FnOk P w K mg base CX0 (k + 1) f fd ["error"] (spFlags C) := by
  refine F.ok scFlags (fun vs H Q E h => ?_) (fun cdv A outer s H vs Q E hr h => ?_)
  · obtain ⟨e, d, n, v, rfl, _⟩ := h
    rfl
  · obtain ⟨e, d, n, v, rfl, hn, he, hd, q⟩ := h
    obtain ⟨nm, qual, st, Te⟩ := T.at n hn
    refine ⟨_, (pss_cons (ps_set (i := 1) scFlags.nd rfl (.inl rfl) (pe_lst (pa_cons (pe_callB call_isErr (by rfl) mi (by decide +kernel) (pa_cons (pv 0) (pa_cons (pe_glob (v := .ref (C 0)) rfl T.e0.gC rfl) pa_nil)))
          (pa_cons (pe_callB call_isErr (by rfl) mi (by decide +kernel) (pa_cons (pv 0) (pa_cons (pe_glob (v := .ref (C 1)) rfl T.e1.gC rfl) pa_nil)))
          (pa_cons (pe_callB call_isErr (by rfl) mi (by decide +kernel) (pa_cons (pv 0) (pa_cons (pe_glob (v := .ref (C 2)) rfl T.e2.gC rfl) pa_nil)))
          pa_nil)))))
      (pss_cons (ps_set (i := 1) scFlags.nd rfl (.inl rfl) (pe_op op_cat (pv 1) (pe_lst (pa_cons (pe_callB call_isErr (by rfl) mi (by decide +kernel) (pa_cons (pv 0) (pa_cons (pe_glob (v := .ref (C 3)) rfl T.e3.gC rfl) pa_nil)))
          (pa_cons (pe_callB call_isErr (by rfl) mi (by decide +kernel) (pa_cons (pv 0) (pa_cons (pe_glob (v := .ref (C 4)) rfl T.e4.gC rfl) pa_nil)))
          pa_nil)))))
      (pss_cons (ps_set (i := 1) scFlags.nd rfl (.inl rfl) (pe_op op_cat (pv 1) (pe_lst (pa_cons (pe_callB call_isErr (by rfl) mi (by decide +kernel) (pa_cons (pv 0) (pa_cons (pe_glob (v := .ref (C 5)) rfl T.e5.gC rfl) pa_nil)))
          (pa_cons (pe_callB call_isErr (by rfl) mi (by decide +kernel) (pa_cons (pv 0) (pa_cons (pe_glob (v := .ref (C 6)) rfl T.e6.gC rfl) pa_nil)))
          pa_nil)))))
      (pss_one (ps_ret (pe_op op_cat (pv 1) (pe_lst (pa_cons (pe_callB call_isErr (by rfl) mi (by decide +kernel) (pa_cons (pv 0) (pa_cons (pe_glob (v := .ref (C 7)) rfl T.e7.gC rfl) pa_nil)))
          pa_nil)))))))), ?_⟩
    have h0 : H e = some (errO e (C n) d) ∧ H d = some (.xd (vf v)) := ⟨he, hd⟩
    refine ⟨_, rfl, e, C n, d, v, .ref (C 0), .ref (C 0), _, rfl, h0.1, h0.2, ClsV.own _, T.kit hn (by decide), ⟨_, _, _, nm, qual, st, T.line, Te⟩, _, rfl, e, C n, d, v, .ref (C 1), .ref (C 1), _, rfl, h0.1, h0.2, ClsV.own _, T.kit hn (by decide), ⟨_, _, _, nm, qual, st, T.line, Te⟩, _, rfl, e, C n, d, v, .ref (C 2), .ref (C 2), _, rfl, h0.1, h0.2, ClsV.own _, T.kit hn (by decide), ⟨_, _, _, nm, qual, st, T.line, Te⟩, by show 3 ≤ sizeLine; decide, fun p1 n1 => ?_⟩
    have s1 : Same H (upd H p1 (.lst [.bl (decide (n = 0)), .bl (decide (n = 1)), .bl (decide (n = 2))])) := same_upd n1
    have h1 := And.intro (s1 _ _ he) (s1 _ _ hd)
    refine ⟨_, rfl, _, rfl, e, C n, d, v, .ref (C 3), .ref (C 3), _, rfl, h1.1, h1.2, ClsV.own _, T.kit hn (by decide), ⟨_, _, _, nm, qual, st, T.line, Te⟩, _, rfl, e, C n, d, v, .ref (C 4), .ref (C 4), _, rfl, h1.1, h1.2, ClsV.own _, T.kit hn (by decide), ⟨_, _, _, nm, qual, st, T.line, Te⟩, by show 2 ≤ sizeLine; decide, fun p2 n2 => ?_⟩
    have s2 := s1.trans (same_upd (o := .lst [.bl (decide (n = 3)), .bl (decide (n = 4))]) n2)
    refine ⟨p1, p2, [.bl (decide (n = 0)), .bl (decide (n = 1)), .bl (decide (n = 2))], [.bl (decide (n = 3)), .bl (decide (n = 4))], rfl, rfl, by rw [upd_ne (ne_of_none upd_same n2)]; exact upd_same, upd_same, by show 5 ≤ sizeLine; decide, fun p3 n3 => ?_⟩
    have s3 := s2.trans (same_upd (o := .lst [.bl (decide (n = 0)), .bl (decide (n = 1)), .bl (decide (n = 2)), .bl (decide (n = 3)), .bl (decide (n = 4))]) n3)
    have h3 := And.intro (s3 _ _ he) (s3 _ _ hd)
    refine ⟨_, rfl, _, rfl, e, C n, d, v, .ref (C 5), .ref (C 5), _, rfl, h3.1, h3.2, ClsV.own _, T.kit hn (by decide), ⟨_, _, _, nm, qual, st, T.line, Te⟩, _, rfl, e, C n, d, v, .ref (C 6), .ref (C 6), _, rfl, h3.1, h3.2, ClsV.own _, T.kit hn (by decide), ⟨_, _, _, nm, qual, st, T.line, Te⟩, by show 2 ≤ sizeLine; decide, fun p4 n4 => ?_⟩
    have s4 := s3.trans (same_upd (o := .lst [.bl (decide (n = 5)), .bl (decide (n = 6))]) n4)
    refine ⟨p3, p4, [.bl (decide (n = 0)), .bl (decide (n = 1)), .bl (decide (n = 2)), .bl (decide (n = 3)), .bl (decide (n = 4))], [.bl (decide (n = 5)), .bl (decide (n = 6))], rfl, rfl, by rw [upd_ne (ne_of_none upd_same n4)]; exact upd_same, upd_same, by show 7 ≤ sizeLine; decide, fun p5 n5 => ?_⟩
    have s5 := s4.trans (same_upd (o := .lst [.bl (decide (n = 0)), .bl (decide (n = 1)), .bl (decide (n = 2)), .bl (decide (n = 3)), .bl (decide (n = 4)), .bl (decide (n = 5)), .bl (decide (n = 6))]) n5)
    have h5 := And.intro (s5 _ _ he) (s5 _ _ hd)
    refine ⟨_, rfl, _, rfl, e, C n, d, v, .ref (C 7), .ref (C 7), _, rfl, h5.1, h5.2, ClsV.own _, T.kit hn (by decide), ⟨_, _, _, nm, qual, st, T.line, Te⟩, by show 1 ≤ sizeLine; decide, fun p6 n6 => ?_⟩
    have s6 := s5.trans (same_upd (o := .lst [.bl (decide (n = 7))]) n6)
    refine ⟨p5, p6, [.bl (decide (n = 0)), .bl (decide (n = 1)), .bl (decide (n = 2)), .bl (decide (n = 3)), .bl (decide (n = 4)), .bl (decide (n = 5)), .bl (decide (n = 6))], [.bl (decide (n = 7))], rfl, rfl, by rw [upd_ne (ne_of_none upd_same n6)]; exact upd_same, upd_same, by show 8 ≤ sizeLine; decide, fun p7 n7 => ?_⟩
    have s7 := s6.trans (same_upd (o := .lst [.bl (decide (n = 0)), .bl (decide (n = 1)), .bl (decide (n = 2)), .bl (decide (n = 3)), .bl (decide (n = 4)), .bl (decide (n = 5)), .bl (decide (n = 6)), .bl (decide (n = 7))]) n7)
    have h7 := And.intro (s7 _ _ he) (s7 _ _ hd)
    exact q _ _ s7 (s6.free n7) upd_same
end
end Lw
namespace Lw
open PySem PySem.Spec L2 Lx
theorem scLaw : FnScope ["script", "rng", "lap", "far", "what", "number", "by_name", "error", "place"] ["script"] (defScope sLaw) := ⟨rfl, rfl, rfl, by decide +kernel, rfl, by decide +kernel, by decide +kernel⟩
def spLaw (K : PySem.W.Frag) : Sp := fun vs H Q _ => ∃ (a : Addr) (ns : List Int), vs = [.ref a] ∧ SqL K H a (ns.map V.int) ∧ ns.length ≤ 63 ∧ ∀ H', Q (.bl true) H'
structure Free (mg : Str → Option Value) : Prop where
  abs : mg "abs" = none
  rng : mg "range" = none
  min : mg "min" = none
  len : mg "len" = none
  isi : mg "isinstance" = none
  ve : mg "ValueError" = none
  repr : mg "repr" = none
  sup : mg "super" = none
section
variable {P : Program} {w : World} {K : PySem.W.Frag} {mg : Str → Option Value} {base : Heap} {L : Addr} {C : Nat → Addr}
theorem ok_law {f fR fD fF fM : Addr} {fd fdR fdD fdF fdM : FuncData} (T : ErrTxt K P.main.file mg L C) (Z : Free mg) (ht : (P.main.scope.names.lookup ("super" : Str)).isSome = false) (F : Fun K "law" "law" sLaw f fd)
    (FR : Fun K "_law_rng" "_law_rng" sRng fR fdR) (FD : Fun K "_law_draw" "_law_draw" sDraw fD fdD) (FF : Fun K "_law_flags" "_law_flags" sFlags fF fdF) (FM : Fun K "_law_made" "_law_made" sMade fM fdM)
    (bR : Binds K fdR ["script"] []) (bD : Binds K fdD ["rng", "limit"] []) (bF : Binds K fdF ["error"] []) (bM : Binds K fdM ["number", "what", "by_name"] [])
    (gR : mg "_law_rng" = some (.ref fR)) (gD : mg "_law_draw" = some (.ref fD)) (gF : mg "_law_flags" = some (.ref fF)) (gM : mg "_law_made" = some (.ref fM)) : FnG P w K mg base CX0 4 f fd ["script"] (spLaw K) := by
  have GR : FnOk P w K mg base CX0 1 fR fdR ["script"] (spRng K) := ok_rng FR Z.abs
  have GD : FnOk P w K mg base CX0 1 fD fdD ["rng", "limit"] spDraw := ok_draw FD
  have GF : FnOk P w K mg base CX0 1 fF fdF ["error"] (spFlags C) := ok_flags T FF Z.isi
  have GM : FnOk P w K mg base CX0 3 fM fdM ["number", "what", "by_name"] (spMade C) := ok_made T FM ht Z.sup
  refine okG F scLaw (fun vs H Q E h => ?_) (fun cdv A outer s H vs Q E hr hg h => ?_)
  · obtain ⟨a, ns, rfl, _⟩ := h
    rfl
  · obtain ⟨a, ns, rfl, hS, hlen, q⟩ := h
    have hr1 : Room 1 (A.deeper (PyProof.Rows.envOfC "law" (defScope sLaw) s.heap.objs.size f cdv)) := hr.mono (by decide)
    refine ⟨_, PSs.nox (pss_cons (ps_set (i := 1) scLaw.nd rfl (.inl rfl) (pe_call GR hr1 (by rfl) gR FR.kp bR .nil pass0 (pa_cons (pv 0) pa_nil)))
      (pss_cons (ps_for PassesOwn.never rfl (pi_range1 rfl Z.rng (pa_cons (pe_op op_add pe_int (pe_callB (call_min2 rfl) (by rfl) Z.min (by decide +kernel) (pa_cons pe_int (pa_cons (pe_callB call_len_seq (by rfl) Z.len PySem.boot_len (pa_cons (pv 0) pa_nil)) pa_nil)))) pa_nil)) (pg_name (i := 2) scLaw.nd rfl (.inl rfl))
        (pss_cons (ps_set (i := 3) scLaw.nd rfl (.inl rfl) (pe_call GD hr1 (by rfl) gD FD.kp bD .nil pass0 (pa_cons (pv 1) (pa_cons (pe_op op_pow pe_int pe_int) pa_nil))))
        (pss_one (ps_for PassesOwn.never rfl (pi_list (pe_lst (pa_cons pe_int (pa_cons (pv 3) (pa_cons (pe_op op_sub pe_int (pv 3)) (pa_cons pe_non (pa_cons pe_str (pa_cons (pe_op op_repS pe_str (pe_call GD hr1 (by rfl) gD FD.kp bD .nil pass0 (pa_cons (pv 1) (pa_cons pe_int pa_nil)))) (pa_cons (pe_tup (pa_cons (pv 3) (pa_cons pe_int pa_nil))) (pa_cons (pe_lst (pa_cons (pv 3) pa_nil)) pa_nil)))))))))) (pg_name (i := 4) scLaw.nd rfl (.inl rfl))
          (pss_one (ps_for PassesOwn.never rfl (pi_range1 rfl Z.rng (pa_cons pe_int pa_nil)) (pg_name (i := 5) scLaw.nd rfl (.inr rfl))
            (pss_one (ps_for PassesOwn.never rfl (pi_list (pe_lst (pa_cons pe_bl (pa_cons pe_bl pa_nil)))) (pg_name (i := 6) scLaw.nd rfl (.inl rfl))
              (pss_cons (ps_set (i := 7) scLaw.nd rfl (.inl rfl) (pe_call GM hr (by rfl) gM FM.kp bM .nil pass0 (pa_cons (pv 5) (pa_cons (pv 4) (pa_cons (pv 6) pa_nil)))))
              (pss_cons (ps_if (pt_cmpR (op_neD hr.units) (pe_call GF hr1 (by rfl) gF FF.kp bF .nil pass0 (pa_cons (pv 7) pa_nil)) (pe_lc (own := [("place", 8)]) (g := gName 8) (tt := tYes) rfl scLaw.nd (pi_range1 rfl Z.rng (pa_cons pe_int pa_nil)) (blkOk_by (own := [("place", 8)]) (N := ["script", "rng", "lap", "far", "what", "number", "by_name", "error", "place"]) (sc := defScope sLaw) (by decide +kernel))
                  (fun _ _ _ _ _ => pg_name (i := 8) scLaw.nd rfl (.inl rfl)) (fun _ _ _ _ _ => pts_nil) (fun _ _ _ _ _ => pe_cmpR op_eq (pv 8) (pv 5) (nomark _))) (nomark _)) (pss_one (ps_ret pe_bl)) pss_nil)
              (pss_cons (ps_if (PW.pt (pw_or (pt_not (pt_val (pe_callB call_isErr (by rfl) Z.isi (by decide +kernel) (pa_cons (pv 7) (pa_cons (pe_glob (v := .ref L) rfl T.line.gL rfl) pa_nil))))) (pw_or1 (pt_not (pt_val (pe_callB call_isErr (by rfl) Z.isi (by decide +kernel) (pa_cons (pv 7) (pa_cons (pe_bltn (v := .ty "ValueError") (by rfl) Z.ve (by decide +kernel) rfl) pa_nil)))))))) (pss_one (ps_ret pe_bl)) pss_nil)
              (pss_one (ps_if (pt_cmpR op_ne (pe_callB (call_reprD hg hr.units) (by rfl) Z.repr (by decide +kernel) (pa_cons (pe_errV (pv 7)) pa_nil)) (pe_callB (call_reprD hg hr.units) (by rfl) Z.repr (by decide +kernel) (pa_cons (pv 4) pa_nil)) (nomark _)) (pss_one (ps_ret pe_bl)) pss_nil)))))))))))))
      (pss_one (ps_ret pe_bl)))), ?_⟩
    have tlt : (10 : Int) ^ Int.toNat 30 = 1000000000000000000000000000000 := by decide +kernel
    have hnat : ∀ {z : Int}, 0 ≤ z → z < 1000000000000000000000000000000 → z.natAbs < 2 ^ 400 := fun {z} h0 h1 => by
      have e : (1000000000000000000000000000000 : Nat) < 2 ^ 400 := by decide +kernel
      omega
    -- rng = _law_rng(script)
    refine ⟨.ref a, rfl, a, ns, rfl, hS, hlen, fun H1 r sm nr hR => ?_⟩
    -- for lap in range(3 + min(5, len(script)))
    refine ⟨.ref a, rfl, a, _, rfl, .inl (sm.seq hS), 5, _, rfl, _, _, rfl, rfl, _, rfl, ?_, ?_, ?_⟩
    · split <;> omega
    · split <;> omega
    have hb : (3 + (if ((ns.map V.int).length : Int) < 5 then ((ns.map V.int).length : Int) else 5)).toNat ≤ 8 := by split <;> omega
    generalize (3 + (if ((ns.map V.int).length : Int) < 5 then ((ns.map V.int).length : Int) else 5)).toNat = laps at hb
    refine for_range (lo := 0) (n := laps) (fun i σ H' => ∃ y2 y3 y4 y5 y6 y7 y8, σ = [some (.ref a), some (.ref r), y2, y3, y4, y5, y6, y7, y8] ∧ RngAt H' r (2 * i)) ⟨none, none, none, none, none, none, none, rfl, hR⟩ ?_ ?_
    · rintro i σ H2 hi ⟨y2, y3, y4, y5, y6, y7, y8, rfl, hR2⟩
      -- far = _law_draw(rng, 10 ** 30)
      refine ⟨.ref r, rfl, _, _, rfl, rfl, ⟨by decide, by decide, by decide⟩, r, 2 * i, _, rfl, hR2, by omega, by decide +kernel, by decide +kernel, fun far H3 hf0 hf1 hR3 _ => ?_⟩
      rw [tlt] at hf1
      -- the list of values
      refine ⟨_, rfl, _, rfl, _, _, rfl, rfl, .ref r, rfl, r, 2 * i + 1, 9, rfl, hR3, by omega, by decide, by decide, fun k H4 hk0 hk1 hR4 _ => ?_⟩
      have hab : ("ab" : Str).length = 2 := by decide
      refine ⟨_, _, rfl, rfl, hk0, by omega, by rw [hab, sizeLine_eq]; omega, ?_⟩
      refine ⟨_, rfl, by show 2 ≤ sizeLine; decide, fun tp ntp => ?_⟩
      refine ⟨_, rfl, by show 1 ≤ sizeLine; decide, fun lp nlp => ?_⟩
      refine ⟨by show 8 ≤ sizeLine; decide, fun p np => ?_⟩
      have a1 : Same H4 (upd H4 tp (.tup [.int far, .int 1])) := same_upd ntp
      have a2 := a1.trans (same_upd (o := .lst [.int far]) nlp)
      have a3 := a2.trans (same_upd (o := .lst [.int 0, .int far, .int (0 - far), .non, .str "", .str (rep "ab" k.toNat), .ref tp, .ref lp]) np)
      have hR5 : RngAt (upd (upd (upd H4 tp (.tup [.int far, .int 1])) lp (.lst [.int far])) p (.lst [.int 0, .int far, .int (0 - far), .non, .str "", .str (rep "ab" k.toNat), .ref tp, .ref lp])) r (2 * i + 1 + 1) := by
        obtain ⟨d, s', c, hL, z⟩ := hR4
        exact ⟨d, s', c, a3 _ _ hL, z⟩
      have htp : upd (upd (upd H4 tp (.tup [.int far, .int 1])) lp (.lst [.int far])) p (.lst [.int 0, .int far, .int (0 - far), .non, .str "", .str (rep "ab" k.toNat), .ref tp, .ref lp]) tp = some (.tup [.int far, .int 1]) := by
        rw [upd_ne (ne_of_none (by rw [upd_ne (ne_of_none upd_same nlp)]; exact upd_same) np), upd_ne (ne_of_none upd_same nlp)]
        exact upd_same
      have hlp : upd (upd (upd H4 tp (.tup [.int far, .int 1])) lp (.lst [.int far])) p (.lst [.int 0, .int far, .int (0 - far), .non, .str "", .str (rep "ab" k.toNat), .ref tp, .ref lp]) lp = some (.lst [.int far]) := by
        rw [upd_ne (ne_of_none upd_same np)]
        exact upd_same
      generalize hH5 : upd (upd (upd H4 tp (.tup [.int far, .int 1])) lp (.lst [.int far])) p (.lst [.int 0, .int far, .int (0 - far), .non, .str "", .str (rep "ab" k.toNat), .ref tp, .ref lp]) = H5 at hR5 htp hlp
      have hp5 : H5 p = some (.lst [.int 0, .int far, .int (0 - far), .non, .str "", .str (rep "ab" k.toNat), .ref tp, .ref lp]) := by
        rw [← hH5]; exact upd_same
      have hfar : small (.int far) = true := by simp only [small]; exact decide_eq_true (hnat hf0 hf1)
      have items : ∀ (j : Nat) (x : V), ([.int 0, .int far, .int (0 - far), .non, .str "", .str (rep "ab" k.toNat), .ref tp, .ref lp] : List V)[j]? = some x → ∃ d, (∀ H', Same H5 H' → Dp K H' x d) ∧ Fit d := by
        intro j x hx
        have hx' := List.mem_of_getElem? hx
        simp only [List.mem_cons, List.not_mem_nil, or_false] at hx'
        rcases hx' with rfl | rfl | rfl | rfl | rfl | rfl | rfl | rfl
        · exact ⟨_, fun H' _ => .int _, fit_small (by decide) (by decide) (by decide)⟩
        · exact ⟨_, fun H' _ => .int _, fit_small hfar (by simp [PyData.depth, PyData.depthAll]) (by simp [PyData.bulk, PyData.bulkAll])⟩
        · refine ⟨_, fun H' _ => .int _, fit_small ?_ (by simp [PyData.depth, PyData.depthAll]) (by simp [PyData.bulk, PyData.bulkAll])⟩
          simp only [small]
          refine decide_eq_true ?_
          have := hnat hf0 hf1
          omega
        · exact ⟨_, fun H' _ => .non, fit_small (by decide) (by decide) (by decide)⟩
        · exact ⟨_, fun H' _ => .str _, fit_small (by decide) (by decide) (by decide)⟩
        · refine ⟨_, fun H' _ => .str _, fit_small ?_ (by simp [PyData.depth, PyData.depthAll]) ?_⟩
          · simp only [small, rep_list, List.all_eq_true, decide_eq_true_eq]
            intro c hc
            obtain ⟨l, hl, hcl⟩ := List.mem_flatten.mp hc
            obtain ⟨_, rfl⟩ := List.mem_replicate.mp hl
            have : ∀ c ∈ ("ab" : Str).cps.toList, c < 128 := by decide
            exact this c hcl
          · show (rep "ab" k.toNat).length ≤ 40000
            rw [rep_len, hab]
            omega
        · refine ⟨_, fun H' sm' => .tup (.inl (.inl (sm' _ _ htp))) (.cons (.int _) (.cons (.int _) .nil)), fit_small ?_ (by simp [PyData.depth, PyData.depthAll]) (by simp [PyData.bulk, PyData.bulkAll])⟩
          simp only [small, small.smallAll] at hfar ⊢
          rw [hfar]
          decide
        · refine ⟨_, fun H' sm' => .lst (.inl (.inl (sm' _ _ hlp))) (.cons (.int _) .nil), fit_small ?_ (by simp [PyData.depth, PyData.depthAll]) (by simp [PyData.bulk, PyData.bulkAll])⟩
          simp only [small, small.smallAll] at hfar ⊢
          rw [hfar]
          decide
      refine ⟨p, rfl, ⟨_, .inl (.inl hp5)⟩, for_list (K := K) (a := p) (xs := [.int 0, .int far, .int (0 - far), .non, .str "", .str (rep "ab" k.toNat), .ref tp, .ref lp])
        (fun j σ H' => Same H5 H' ∧ ∃ y4 y5 y6 y7 y8, σ = [some (.ref a), some (.ref r), some (.int (0 + i)), some (.int far), y4, y5, y6, y7, y8]) ⟨Same.refl _, _, _, _, _, _, rfl⟩ (fun j σ H' _ hP => .inl (.inl (hP.1 _ _ hp5))) ?_ ?_⟩
      · rintro j x σ H6 hj ⟨sm6, y4, y5, y6, y7, y8, rfl⟩
        obtain ⟨d, hd, hfit⟩ := items j x hj
        refine ⟨8, rfl, by decide, by decide, for_range (lo := 0) (n := 8) (fun m σ H' => Same H5 H' ∧ ∃ y5 y6 y7 y8, σ = [some (.ref a), some (.ref r), some (.int (0 + i)), some (.int far), some x, y5, y6, y7, y8]) ⟨sm6, _, _, _, _, rfl⟩ ?_ ?_⟩
        · rintro m σ H7 hm ⟨sm7, y5, y6, y7, y8, rfl⟩
          refine ⟨by show 2 ≤ sizeLine; decide, fun bp nbp => ?_⟩
          have sm8 := sm7.trans (same_upd (o := .lst [.bl false, .bl true]) nbp)
          have hbp : upd H7 bp (.lst [.bl false, .bl true]) bp = some (.lst [.bl false, .bl true]) := upd_same
          generalize upd H7 bp (.lst [.bl false, .bl true]) = H8 at sm8 hbp
          refine ⟨bp, rfl, ⟨_, .inl (.inl hbp)⟩, for_list (K := K) (a := bp) (xs := [.bl false, .bl true])
            (fun _ σ H' => Same H8 H' ∧ ∃ y6 y7 y8, σ = [some (.ref a), some (.ref r), some (.int (0 + i)), some (.int far), some x, some (.int (0 + m)), y6, y7, y8]) ⟨Same.refl _, _, _, _, rfl⟩ (fun _ σ H' _ hP => .inl (.inl (hP.1 _ _ hbp))) ?_ ?_⟩
          · rintro jb xb σ H9 hjb ⟨sm9, y6, y7, y8, rfl⟩
            obtain ⟨b, rfl⟩ : ∃ b, xb = .bl b := by
              have hx' := List.mem_of_getElem? hjb
              simp only [List.mem_cons, List.not_mem_nil, or_false] at hx'
              rcases hx' with rfl | rfl
              · exact ⟨_, rfl⟩
              · exact ⟨_, rfl⟩
            -- error = _law_made(number, what, by_name)
            refine ⟨_, rfl, _, rfl, _, rfl, m, x, b, by rw [Int.zero_add]; rfl, hm, fun ed ee ned nee nde => ?_⟩
            have sm10 : Same H9 (upd (upd H9 ed (.xd (vf x))) ee (errO ee (C m) ed)) := fun b o e => by
              rw [upd_ne (ne_of_none e nee), upd_ne (ne_of_none e ned)]
              exact e
            have he10 : upd (upd H9 ed (.xd (vf x))) ee (errO ee (C m) ed) ee = some (errO ee (C m) ed) := upd_same
            have hd10 : upd (upd H9 ed (.xd (vf x))) ee (errO ee (C m) ed) ed = some (.xd (vf x)) := by
              rw [upd_ne nde]; exact upd_same
            generalize upd (upd H9 ed (.xd (vf x))) ee (errO ee (C m) ed) = H10 at sm10 he10 hd10
            obtain ⟨nm, qual, st, Te⟩ := T.at m hm
            -- the flags
            refine ⟨_, rfl, ee, ed, m, x, rfl, hm, he10, hd10, fun H11 fp sm11 nfp hfp => ?_⟩
            refine ⟨8, rfl, by decide, by decide, fun D nD => lc_range (lo := 0) (n := 8) (fun q H' => Same H11 H' ∧ H' D = some (.lst ((List.range q).map fun p : Nat => V.bl (decide (V.int (0 + (p : Int)) = V.int (0 + (m : Int)))))))
              ⟨same_upd nD, upd_same⟩ ?_ ?_⟩
            · rintro p H12 hp ⟨sm12, hD⟩
              refine ⟨rfl, _, rfl, _, rfl, rfl, _, hD, ?_, fun b o e => ?_, ?_⟩
              · rw [List.length_map, List.length_range, sizeLine_eq]
                omega
              · rw [upd_ne (ne_of_none e nD)]
                exact sm12 _ _ e
              · rw [upd_same, List.range_succ, List.map_append]
                rfl
            · rintro H12 ⟨sm12, hD⟩
              have hl : ((List.range 8).map fun p : Nat => V.bl (decide (V.int (0 + (p : Int)) = V.int (0 + (m : Int))))) = (flags m).map V.bl := by
                have e : ∀ p : Nat, decide (V.int (0 + (p : Int)) = V.int (0 + (m : Int))) = decide (m = p) := fun p => by
                  by_cases h : m = p
                  · subst h; simp
                  · rw [decide_eq_false h, decide_eq_false]
                    intro z
                    have := V.int.inj z
                    omega
                simp only [e]
                rfl
              rw [hl] at hD
              have dps : ∀ bs : List Bool, DpAll K H12 (bs.map V.bl) (bs.map PyData.bool) := fun bs => by
                induction bs with
                | nil => exact .nil
                | cons b bs ih => exact .cons (.bl b) ih
              refine ⟨.list ((flags m).map PyData.bool), .list ((flags m).map PyData.bool), .lst (.inl (.inl (sm12 _ _ hfp))) (dps _), .lst (.inl (.inl hD)) (dps _), rfl, rfl, _, rfl, ?_⟩
              rw [SeqAt.eqv_refl _ (by rfl)]
              refine iteF ?_
              have he12 := sm12 _ _ (sm11 _ _ he10)
              have hd12 := sm12 _ _ (sm11 _ _ hd10)
              have ex : ∃ (file : Str) (mg : Str → Option Value) (L : Addr) (nm qual : Str) (st : Stmt), LineC K mg L ∧ ErrC K file mg L nm qual st (C m) := ⟨_, _, _, _, _, _, T.line, Te⟩
              have s12 : Same H5 H12 := sm8.trans (sm9.trans (sm10.trans (sm11.trans sm12)))
              refine ⟨_, rfl, ee, C m, ed, x, .ref L, .ref L, true, rfl, he12, hd12, .own L, kit_line T.line Te, ex, true, rfl, iteF ?_⟩
              refine ⟨_, rfl, ee, C m, ed, x, .ty "ValueError", .type "ValueError", true, rfl, he12, hd12, .ty _, kit_ve Te, ex, true, rfl, iteF ?_⟩
              refine ⟨_, rfl, ee, C m, ed, x, rfl, he12, hd12, ex, x, d, rfl, hd _ s12, hfit, _, rfl, x, d, rfl, hd _ s12, hfit, rfl, _, rfl, iteNS rfl ?_⟩
              exact ⟨sm9.trans (sm10.trans (sm11.trans sm12)), _, _, _, rfl⟩
          · rintro σ H9 ⟨sm9, y6, y7, y8, rfl⟩
            exact ⟨sm8.trans sm9, _, _, _, _, rfl⟩
        · rintro σ H7 ⟨sm7, y5, y6, y7, y8, rfl⟩
          exact ⟨sm7, _, _, _, _, _, rfl⟩
      · rintro σ H6 ⟨sm6, y4, y5, y6, y7, y8, rfl⟩
        obtain ⟨d, s', c, hL, z⟩ := hR5
        exact ⟨_, _, _, _, _, _, _, rfl, d, s', c, sm6 _ _ hL, z⟩
    · rintro σ H2 ⟨y2, y3, y4, y5, y6, y7, y8, rfl, hR2⟩
      exact q _
end
end Lw
namespace Lw
open PySem PySem.Spec L2 Lx
theorem getD_at {l : List Addr} {i : Nat} (h : i < l.length) : l.getD i 0 = l[i] := by
  rw [List.getD_eq_getElem?_getD, List.getElem?_eq_getElem h]; rfl
theorem all_mk {P : Program} {w : World} {K : PySem.W.Frag} {h : Heap} {mg : Str → Option Value} {fa L c0 c1 c2 c3 c4 c5 c6 c7 f0 f1 f2 f3 f4 f5 f6 f7 fR fD fF fM fW : Addr} (X : K.In h) (G : h.Ns mainGlobals mg) (hfa : mg "law" = some (.ref fa)) (ht : (P.main.scope.names.lookup ("super" : Str)).isSome = false)
    {nL qL : Str} {NL : Addr} {bsL : List Value} {snL : List Str} {subL : List Value} {abL : Bool} {colL : Option Bool} {ddL : Option Addr} {k0L k1L k2L k3L k5L : Option Value}
    {n0 q0 : Str} {N0 : Addr} {bs0 : List Value} {sn0 : List Str} {sub0 : List Value} {ab0 : Bool} {col0 : Option Bool} {dd0 : Option Addr} {ka0 kb0 kc0 kd0 ke0 : Option Value} {oc0 doc0 pm0 ct0 cl0 ce0 : Value} {od0 an0 cdx0 cf0 : Option Addr} {cc0 cda0 : Addr} {osl0 cs0 cg0 : Array (Option Value)} {vs0 : Array Value} {tf0 : Tok}
    {n1 q1 : Str} {N1 : Addr} {bs1 : List Value} {sn1 : List Str} {sub1 : List Value} {ab1 : Bool} {col1 : Option Bool} {dd1 : Option Addr} {ka1 kb1 kc1 kd1 ke1 : Option Value} {oc1 doc1 pm1 ct1 cl1 ce1 : Value} {od1 an1 cdx1 cf1 : Option Addr} {cc1 cda1 : Addr} {osl1 cs1 cg1 : Array (Option Value)} {vs1 : Array Value} {tf1 : Tok}
    {n2 q2 : Str} {N2 : Addr} {bs2 : List Value} {sn2 : List Str} {sub2 : List Value} {ab2 : Bool} {col2 : Option Bool} {dd2 : Option Addr} {ka2 kb2 kc2 kd2 ke2 : Option Value} {oc2 doc2 pm2 ct2 cl2 ce2 : Value} {od2 an2 cdx2 cf2 : Option Addr} {cc2 cda2 : Addr} {osl2 cs2 cg2 : Array (Option Value)} {vs2 : Array Value} {tf2 : Tok}
    {n3 q3 : Str} {N3 : Addr} {bs3 : List Value} {sn3 : List Str} {sub3 : List Value} {ab3 : Bool} {col3 : Option Bool} {dd3 : Option Addr} {ka3 kb3 kc3 kd3 ke3 : Option Value} {oc3 doc3 pm3 ct3 cl3 ce3 : Value} {od3 an3 cdx3 cf3 : Option Addr} {cc3 cda3 : Addr} {osl3 cs3 cg3 : Array (Option Value)} {vs3 : Array Value} {tf3 : Tok}
    {n4 q4 : Str} {N4 : Addr} {bs4 : List Value} {sn4 : List Str} {sub4 : List Value} {ab4 : Bool} {col4 : Option Bool} {dd4 : Option Addr} {ka4 kb4 kc4 kd4 ke4 : Option Value} {oc4 doc4 pm4 ct4 cl4 ce4 : Value} {od4 an4 cdx4 cf4 : Option Addr} {cc4 cda4 : Addr} {osl4 cs4 cg4 : Array (Option Value)} {vs4 : Array Value} {tf4 : Tok}
    {n5 q5 : Str} {N5 : Addr} {bs5 : List Value} {sn5 : List Str} {sub5 : List Value} {ab5 : Bool} {col5 : Option Bool} {dd5 : Option Addr} {ka5 kb5 kc5 kd5 ke5 : Option Value} {oc5 doc5 pm5 ct5 cl5 ce5 : Value} {od5 an5 cdx5 cf5 : Option Addr} {cc5 cda5 : Addr} {osl5 cs5 cg5 : Array (Option Value)} {vs5 : Array Value} {tf5 : Tok}
    {n6 q6 : Str} {N6 : Addr} {bs6 : List Value} {sn6 : List Str} {sub6 : List Value} {ab6 : Bool} {col6 : Option Bool} {dd6 : Option Addr} {ka6 kb6 kc6 kd6 ke6 : Option Value} {oc6 doc6 pm6 ct6 cl6 ce6 : Value} {od6 an6 cdx6 cf6 : Option Addr} {cc6 cda6 : Addr} {osl6 cs6 cg6 : Array (Option Value)} {vs6 : Array Value} {tf6 : Tok}
    {n7 q7 : Str} {N7 : Addr} {bs7 : List Value} {sn7 : List Str} {sub7 : List Value} {ab7 : Bool} {col7 : Option Bool} {dd7 : Option Addr} {ka7 kb7 kc7 kd7 ke7 : Option Value} {oc7 doc7 pm7 ct7 cl7 ce7 : Value} {od7 an7 cdx7 cf7 : Option Addr} {cc7 cda7 : Addr} {osl7 cs7 cg7 : Array (Option Value)} {vs7 : Array Value} {tf7 : Tok}
    {ocR kVR docR pmR cdR ctR : Value} {odR anR : Option Addr} {oslR : Array (Option Value)}
    {ocD kVD docD pmD cdD ctD : Value} {odD anD : Option Addr} {oslD : Array (Option Value)}
    {ocF kVF docF pmF cdF ctF : Value} {odF anF : Option Addr} {oslF : Array (Option Value)}
    {ocM kVM docM pmM cdM ctM : Value} {odM anM : Option Addr} {oslM : Array (Option Value)}
    {ocW kVW docW pmW cdW ctW : Value} {odW anW : Option Addr} {oslW : Array (Option Value)}
    (aL : PySem.W.nsIn K mainGlobals "LineError" = some (some (.ref L)))
    (xL : K.lookup L = some (excClassObj nL qL L NL bsL HandSPX.veTail true snL subL abL colL ddL k0L k1L k2L k3L k5L "ValueError.__new__"))
    (iL : PySem.W.findIn K (.ref L) "__init__" = some (some (.builtin "ValueError.__init__")))
    (tL : PySem.W.typeIn K (.ref L) = some (.type "type"))
    (eL : PySem.W.subIn K (.ref L) (.type "BaseException") = some true)
    (oq : PySem.W.nsIn K cStatics "thirdparty.any" = some none)
    (sp : PySem.W.specialIn K (.builtin "object.__class__") "__get__" = some (some (.builtin "getset_descriptor.__get__")))
    (tk : PySem.W.takesIn K (.builtin "object.__class__") = some true)
    (a0 : PySem.W.nsIn K mainGlobals "InvalidChain" = some (some (.ref c0)))
    (x0 : K.lookup c0 = some (excClassObj n0 q0 c0 N0 bs0 (.ref L :: HandSPX.veTail) true sn0 sub0 ab0 col0 dd0 ka0 kb0 kc0 kd0 ke0 "ValueError.__new__"))
    (sa0 : PySem.W.findIn K (.ref c0) "__setattr__" = some (some (.builtin "object.__setattr__")))
    (ga0 : PySem.W.findIn K (.ref c0) "__getattribute__" = some (some (.builtin "BaseException.__getattribute__")))
    (gg0 : PySem.W.findIn K (.ref c0) "__getattr__" = some none)
    (ca0 : PySem.W.findIn K (.ref c0) "__class__" = some (some (.builtin "object.__class__")))
    (nv0 : PySem.W.findIn K (.ref c0) "value" = some none)
    (ty0 : PySem.W.typeIn K (.ref c0) = some (.type "type"))
    (kp0 : PySem.W.keepIn K (.ref c0) = true)
    (i0 : PySem.W.findIn K (.ref c0) "__init__" = some (some (.ref f0)))
    (t0 : PySem.W.typeIn K (.ref f0) = some (.type "function"))
    (l0 : K.lookup f0 = some ⟨oc0, od0, .func (PySem.W.fnX "__init__" "InvalidChain.__init__" (defArgs (sIni 0)) (defBody (sIni 0)) (defScope (sIni 0)) [("__class__", cc0)] .none .none doc0 pm0 an0 (.ref cda0) ct0), osl0⟩)
    (cd0 : PySem.W.codeIn K (.ref cda0) "InvalidChain.__init__" = true)
    (v0 : K.lookup cda0 = some ⟨cl0, cdx0, .fields vs0, cs0⟩)
    (w0 : vs0[2]? = some (.str P.main.file tf0))
    (ce_0 : K.lookup cc0 = some ⟨ce0, cf0, .cell (some (.ref c0)), cg0⟩)
    (a1 : PySem.W.nsIn K mainGlobals "InvalidRun" = some (some (.ref c1)))
    (x1 : K.lookup c1 = some (excClassObj n1 q1 c1 N1 bs1 (.ref L :: HandSPX.veTail) true sn1 sub1 ab1 col1 dd1 ka1 kb1 kc1 kd1 ke1 "ValueError.__new__"))
    (sa1 : PySem.W.findIn K (.ref c1) "__setattr__" = some (some (.builtin "object.__setattr__")))
    (ga1 : PySem.W.findIn K (.ref c1) "__getattribute__" = some (some (.builtin "BaseException.__getattribute__")))
    (gg1 : PySem.W.findIn K (.ref c1) "__getattr__" = some none)
    (ca1 : PySem.W.findIn K (.ref c1) "__class__" = some (some (.builtin "object.__class__")))
    (nv1 : PySem.W.findIn K (.ref c1) "value" = some none)
    (ty1 : PySem.W.typeIn K (.ref c1) = some (.type "type"))
    (kp1 : PySem.W.keepIn K (.ref c1) = true)
    (i1 : PySem.W.findIn K (.ref c1) "__init__" = some (some (.ref f1)))
    (t1 : PySem.W.typeIn K (.ref f1) = some (.type "function"))
    (l1 : K.lookup f1 = some ⟨oc1, od1, .func (PySem.W.fnX "__init__" "InvalidRun.__init__" (defArgs (sIni 1)) (defBody (sIni 1)) (defScope (sIni 1)) [("__class__", cc1)] .none .none doc1 pm1 an1 (.ref cda1) ct1), osl1⟩)
    (cd1 : PySem.W.codeIn K (.ref cda1) "InvalidRun.__init__" = true)
    (v1 : K.lookup cda1 = some ⟨cl1, cdx1, .fields vs1, cs1⟩)
    (w1 : vs1[2]? = some (.str P.main.file tf1))
    (ce_1 : K.lookup cc1 = some ⟨ce1, cf1, .cell (some (.ref c1)), cg1⟩)
    (a2 : PySem.W.nsIn K mainGlobals "InvalidForm" = some (some (.ref c2)))
    (x2 : K.lookup c2 = some (excClassObj n2 q2 c2 N2 bs2 (.ref L :: HandSPX.veTail) true sn2 sub2 ab2 col2 dd2 ka2 kb2 kc2 kd2 ke2 "ValueError.__new__"))
    (sa2 : PySem.W.findIn K (.ref c2) "__setattr__" = some (some (.builtin "object.__setattr__")))
    (ga2 : PySem.W.findIn K (.ref c2) "__getattribute__" = some (some (.builtin "BaseException.__getattribute__")))
    (gg2 : PySem.W.findIn K (.ref c2) "__getattr__" = some none)
    (ca2 : PySem.W.findIn K (.ref c2) "__class__" = some (some (.builtin "object.__class__")))
    (nv2 : PySem.W.findIn K (.ref c2) "value" = some none)
    (ty2 : PySem.W.typeIn K (.ref c2) = some (.type "type"))
    (kp2 : PySem.W.keepIn K (.ref c2) = true)
    (i2 : PySem.W.findIn K (.ref c2) "__init__" = some (some (.ref f2)))
    (t2 : PySem.W.typeIn K (.ref f2) = some (.type "function"))
    (l2 : K.lookup f2 = some ⟨oc2, od2, .func (PySem.W.fnX "__init__" "InvalidForm.__init__" (defArgs (sIni 2)) (defBody (sIni 2)) (defScope (sIni 2)) [("__class__", cc2)] .none .none doc2 pm2 an2 (.ref cda2) ct2), osl2⟩)
    (cd2 : PySem.W.codeIn K (.ref cda2) "InvalidForm.__init__" = true)
    (v2 : K.lookup cda2 = some ⟨cl2, cdx2, .fields vs2, cs2⟩)
    (w2 : vs2[2]? = some (.str P.main.file tf2))
    (ce_2 : K.lookup cc2 = some ⟨ce2, cf2, .cell (some (.ref c2)), cg2⟩)
    (a3 : PySem.W.nsIn K mainGlobals "InvalidNumber" = some (some (.ref c3)))
    (x3 : K.lookup c3 = some (excClassObj n3 q3 c3 N3 bs3 (.ref L :: HandSPX.veTail) true sn3 sub3 ab3 col3 dd3 ka3 kb3 kc3 kd3 ke3 "ValueError.__new__"))
    (sa3 : PySem.W.findIn K (.ref c3) "__setattr__" = some (some (.builtin "object.__setattr__")))
    (ga3 : PySem.W.findIn K (.ref c3) "__getattribute__" = some (some (.builtin "BaseException.__getattribute__")))
    (gg3 : PySem.W.findIn K (.ref c3) "__getattr__" = some none)
    (ca3 : PySem.W.findIn K (.ref c3) "__class__" = some (some (.builtin "object.__class__")))
    (nv3 : PySem.W.findIn K (.ref c3) "value" = some none)
    (ty3 : PySem.W.typeIn K (.ref c3) = some (.type "type"))
    (kp3 : PySem.W.keepIn K (.ref c3) = true)
    (i3 : PySem.W.findIn K (.ref c3) "__init__" = some (some (.ref f3)))
    (t3 : PySem.W.typeIn K (.ref f3) = some (.type "function"))
    (l3 : K.lookup f3 = some ⟨oc3, od3, .func (PySem.W.fnX "__init__" "InvalidNumber.__init__" (defArgs (sIni 3)) (defBody (sIni 3)) (defScope (sIni 3)) [("__class__", cc3)] .none .none doc3 pm3 an3 (.ref cda3) ct3), osl3⟩)
    (cd3 : PySem.W.codeIn K (.ref cda3) "InvalidNumber.__init__" = true)
    (v3 : K.lookup cda3 = some ⟨cl3, cdx3, .fields vs3, cs3⟩)
    (w3 : vs3[2]? = some (.str P.main.file tf3))
    (ce_3 : K.lookup cc3 = some ⟨ce3, cf3, .cell (some (.ref c3)), cg3⟩)
    (a4 : PySem.W.nsIn K mainGlobals "InvalidPlace" = some (some (.ref c4)))
    (x4 : K.lookup c4 = some (excClassObj n4 q4 c4 N4 bs4 (.ref L :: HandSPX.veTail) true sn4 sub4 ab4 col4 dd4 ka4 kb4 kc4 kd4 ke4 "ValueError.__new__"))
    (sa4 : PySem.W.findIn K (.ref c4) "__setattr__" = some (some (.builtin "object.__setattr__")))
    (ga4 : PySem.W.findIn K (.ref c4) "__getattribute__" = some (some (.builtin "BaseException.__getattribute__")))
    (gg4 : PySem.W.findIn K (.ref c4) "__getattr__" = some none)
    (ca4 : PySem.W.findIn K (.ref c4) "__class__" = some (some (.builtin "object.__class__")))
    (nv4 : PySem.W.findIn K (.ref c4) "value" = some none)
    (ty4 : PySem.W.typeIn K (.ref c4) = some (.type "type"))
    (kp4 : PySem.W.keepIn K (.ref c4) = true)
    (i4 : PySem.W.findIn K (.ref c4) "__init__" = some (some (.ref f4)))
    (t4 : PySem.W.typeIn K (.ref f4) = some (.type "function"))
    (l4 : K.lookup f4 = some ⟨oc4, od4, .func (PySem.W.fnX "__init__" "InvalidPlace.__init__" (defArgs (sIni 4)) (defBody (sIni 4)) (defScope (sIni 4)) [("__class__", cc4)] .none .none doc4 pm4 an4 (.ref cda4) ct4), osl4⟩)
    (cd4 : PySem.W.codeIn K (.ref cda4) "InvalidPlace.__init__" = true)
    (v4 : K.lookup cda4 = some ⟨cl4, cdx4, .fields vs4, cs4⟩)
    (w4 : vs4[2]? = some (.str P.main.file tf4))
    (ce_4 : K.lookup cc4 = some ⟨ce4, cf4, .cell (some (.ref c4)), cg4⟩)
    (a5 : PySem.W.nsIn K mainGlobals "UnknownName" = some (some (.ref c5)))
    (x5 : K.lookup c5 = some (excClassObj n5 q5 c5 N5 bs5 (.ref L :: HandSPX.veTail) true sn5 sub5 ab5 col5 dd5 ka5 kb5 kc5 kd5 ke5 "ValueError.__new__"))
    (sa5 : PySem.W.findIn K (.ref c5) "__setattr__" = some (some (.builtin "object.__setattr__")))
    (ga5 : PySem.W.findIn K (.ref c5) "__getattribute__" = some (some (.builtin "BaseException.__getattribute__")))
    (gg5 : PySem.W.findIn K (.ref c5) "__getattr__" = some none)
    (ca5 : PySem.W.findIn K (.ref c5) "__class__" = some (some (.builtin "object.__class__")))
    (nv5 : PySem.W.findIn K (.ref c5) "value" = some none)
    (ty5 : PySem.W.typeIn K (.ref c5) = some (.type "type"))
    (kp5 : PySem.W.keepIn K (.ref c5) = true)
    (i5 : PySem.W.findIn K (.ref c5) "__init__" = some (some (.ref f5)))
    (t5 : PySem.W.typeIn K (.ref f5) = some (.type "function"))
    (l5 : K.lookup f5 = some ⟨oc5, od5, .func (PySem.W.fnX "__init__" "UnknownName.__init__" (defArgs (sIni 5)) (defBody (sIni 5)) (defScope (sIni 5)) [("__class__", cc5)] .none .none doc5 pm5 an5 (.ref cda5) ct5), osl5⟩)
    (cd5 : PySem.W.codeIn K (.ref cda5) "UnknownName.__init__" = true)
    (v5 : K.lookup cda5 = some ⟨cl5, cdx5, .fields vs5, cs5⟩)
    (w5 : vs5[2]? = some (.str P.main.file tf5))
    (ce_5 : K.lookup cc5 = some ⟨ce5, cf5, .cell (some (.ref c5)), cg5⟩)
    (a6 : PySem.W.nsIn K mainGlobals "NothingToUndo" = some (some (.ref c6)))
    (x6 : K.lookup c6 = some (excClassObj n6 q6 c6 N6 bs6 (.ref L :: HandSPX.veTail) true sn6 sub6 ab6 col6 dd6 ka6 kb6 kc6 kd6 ke6 "ValueError.__new__"))
    (sa6 : PySem.W.findIn K (.ref c6) "__setattr__" = some (some (.builtin "object.__setattr__")))
    (ga6 : PySem.W.findIn K (.ref c6) "__getattribute__" = some (some (.builtin "BaseException.__getattribute__")))
    (gg6 : PySem.W.findIn K (.ref c6) "__getattr__" = some none)
    (ca6 : PySem.W.findIn K (.ref c6) "__class__" = some (some (.builtin "object.__class__")))
    (nv6 : PySem.W.findIn K (.ref c6) "value" = some none)
    (ty6 : PySem.W.typeIn K (.ref c6) = some (.type "type"))
    (kp6 : PySem.W.keepIn K (.ref c6) = true)
    (i6 : PySem.W.findIn K (.ref c6) "__init__" = some (some (.ref f6)))
    (t6 : PySem.W.typeIn K (.ref f6) = some (.type "function"))
    (l6 : K.lookup f6 = some ⟨oc6, od6, .func (PySem.W.fnX "__init__" "NothingToUndo.__init__" (defArgs (sIni 6)) (defBody (sIni 6)) (defScope (sIni 6)) [("__class__", cc6)] .none .none doc6 pm6 an6 (.ref cda6) ct6), osl6⟩)
    (cd6 : PySem.W.codeIn K (.ref cda6) "NothingToUndo.__init__" = true)
    (v6 : K.lookup cda6 = some ⟨cl6, cdx6, .fields vs6, cs6⟩)
    (w6 : vs6[2]? = some (.str P.main.file tf6))
    (ce_6 : K.lookup cc6 = some ⟨ce6, cf6, .cell (some (.ref c6)), cg6⟩)
    (a7 : PySem.W.nsIn K mainGlobals "Unreadable" = some (some (.ref c7)))
    (x7 : K.lookup c7 = some (excClassObj n7 q7 c7 N7 bs7 (.ref L :: HandSPX.veTail) true sn7 sub7 ab7 col7 dd7 ka7 kb7 kc7 kd7 ke7 "ValueError.__new__"))
    (sa7 : PySem.W.findIn K (.ref c7) "__setattr__" = some (some (.builtin "object.__setattr__")))
    (ga7 : PySem.W.findIn K (.ref c7) "__getattribute__" = some (some (.builtin "BaseException.__getattribute__")))
    (gg7 : PySem.W.findIn K (.ref c7) "__getattr__" = some none)
    (ca7 : PySem.W.findIn K (.ref c7) "__class__" = some (some (.builtin "object.__class__")))
    (nv7 : PySem.W.findIn K (.ref c7) "value" = some none)
    (ty7 : PySem.W.typeIn K (.ref c7) = some (.type "type"))
    (kp7 : PySem.W.keepIn K (.ref c7) = true)
    (i7 : PySem.W.findIn K (.ref c7) "__init__" = some (some (.ref f7)))
    (t7 : PySem.W.typeIn K (.ref f7) = some (.type "function"))
    (l7 : K.lookup f7 = some ⟨oc7, od7, .func (PySem.W.fnX "__init__" "Unreadable.__init__" (defArgs (sIni 7)) (defBody (sIni 7)) (defScope (sIni 7)) [("__class__", cc7)] .none .none doc7 pm7 an7 (.ref cda7) ct7), osl7⟩)
    (cd7 : PySem.W.codeIn K (.ref cda7) "Unreadable.__init__" = true)
    (v7 : K.lookup cda7 = some ⟨cl7, cdx7, .fields vs7, cs7⟩)
    (w7 : vs7[2]? = some (.str P.main.file tf7))
    (ce_7 : K.lookup cc7 = some ⟨ce7, cf7, .cell (some (.ref c7)), cg7⟩)
    (aR : PySem.W.nsIn K mainGlobals "_law_rng" = some (some (.ref fR)))
    (lR : K.lookup fR = some ⟨ocR, odR, .func (PySem.W.fnOf "_law_rng" "_law_rng" (defArgs sRng) (defBody sRng) (defScope sRng) .none kVR docR pmR anR cdR ctR), oslR⟩)
    (c_R : PySem.W.codeIn K cdR "_law_rng" = true)
    (k_R : PySem.W.keepIn K (.ref fR) = true)
    (aD : PySem.W.nsIn K mainGlobals "_law_draw" = some (some (.ref fD)))
    (lD : K.lookup fD = some ⟨ocD, odD, .func (PySem.W.fnOf "_law_draw" "_law_draw" (defArgs sDraw) (defBody sDraw) (defScope sDraw) .none kVD docD pmD anD cdD ctD), oslD⟩)
    (c_D : PySem.W.codeIn K cdD "_law_draw" = true)
    (k_D : PySem.W.keepIn K (.ref fD) = true)
    (aF : PySem.W.nsIn K mainGlobals "_law_flags" = some (some (.ref fF)))
    (lF : K.lookup fF = some ⟨ocF, odF, .func (PySem.W.fnOf "_law_flags" "_law_flags" (defArgs sFlags) (defBody sFlags) (defScope sFlags) .none kVF docF pmF anF cdF ctF), oslF⟩)
    (c_F : PySem.W.codeIn K cdF "_law_flags" = true)
    (k_F : PySem.W.keepIn K (.ref fF) = true)
    (aM : PySem.W.nsIn K mainGlobals "_law_made" = some (some (.ref fM)))
    (lM : K.lookup fM = some ⟨ocM, odM, .func (PySem.W.fnOf "_law_made" "_law_made" (defArgs sMade) (defBody sMade) (defScope sMade) .none kVM docM pmM anM cdM ctM), oslM⟩)
    (c_M : PySem.W.codeIn K cdM "_law_made" = true)
    (k_M : PySem.W.keepIn K (.ref fM) = true)
    (aW : PySem.W.nsIn K mainGlobals "law" = some (some (.ref fW)))
    (lW : K.lookup fW = some ⟨ocW, odW, .func (PySem.W.fnOf "law" "law" (defArgs sLaw) (defBody sLaw) (defScope sLaw) .none kVW docW pmW anW cdW ctW), oslW⟩)
    (c_W : PySem.W.codeIn K cdW "law" = true)
    (k_W : PySem.W.keepIn K (.ref fW) = true)
    (z1 : PySem.W.nsIn K mainGlobals "abs" = some none)
    (z2 : PySem.W.nsIn K mainGlobals "range" = some none)
    (z3 : PySem.W.nsIn K mainGlobals "min" = some none)
    (z4 : PySem.W.nsIn K mainGlobals "len" = some none)
    (z5 : PySem.W.nsIn K mainGlobals "isinstance" = some none)
    (z6 : PySem.W.nsIn K mainGlobals "ValueError" = some none)
    (z7 : PySem.W.nsIn K mainGlobals "repr" = some none)
    (z8 : PySem.W.nsIn K mainGlobals "super" = some none)
    (nd : ([c0, c1, c2, c3, c4, c5, c6, c7] : List Addr).Nodup)
    (nl : ∀ c ∈ ([c0, c1, c2, c3, c4, c5, c6, c7] : List Addr), c ≠ L) :
    ∃ fd : FuncData, (∀ (s : Shared) (v : Value), BindsTo s fd ⟨[v], []⟩ [("script", v)]) ∧ ∀ base : Heap, K.In base → base.Ns mainGlobals mg → FnG P w K mg base CX0 4 fa fd ["script"] (spLaw K) := by
  have e := hfa.symm.trans (PySem.W.mg_of X G aW)
  cases e
  have TL : LineC K mg L := { gL := PySem.W.mg_of X G aL, cls := ⟨_, _, _, _, _, _, _, _, _, _, _, _, _, _, xL⟩, ini := iL, ty := tL, exB := eL, sup := z8, opq := oq, sp := sp, tk := tk }
  have T0 : ErrC K P.main.file mg L "InvalidChain" "InvalidChain.__init__" (sIni 0) c0 := { gC := PySem.W.mg_of X G a0, cls := ⟨_, _, _, _, _, _, _, _, _, _, _, _, _, _, x0⟩, sa := sa0, ga := ga0, gg := gg0, ca := ca0, nv := nv0, ty := ty0, kp := kp0, init := ⟨_, i0, t0, _, _, _, _, _, _, _, _, _, l0, cd0, ⟨_, _, _, _, _, v0, w0⟩, _, _, _, ce_0⟩, tA := ⟨_, _, rfl⟩, tB := ⟨_, _, _, _, _, _, _, _, _, _, _, rfl, fun env => ⟨_, rfl⟩⟩, tS := rfl }
  have T1 : ErrC K P.main.file mg L "InvalidRun" "InvalidRun.__init__" (sIni 1) c1 := { gC := PySem.W.mg_of X G a1, cls := ⟨_, _, _, _, _, _, _, _, _, _, _, _, _, _, x1⟩, sa := sa1, ga := ga1, gg := gg1, ca := ca1, nv := nv1, ty := ty1, kp := kp1, init := ⟨_, i1, t1, _, _, _, _, _, _, _, _, _, l1, cd1, ⟨_, _, _, _, _, v1, w1⟩, _, _, _, ce_1⟩, tA := ⟨_, _, rfl⟩, tB := ⟨_, _, _, _, _, _, _, _, _, _, _, rfl, fun env => ⟨_, rfl⟩⟩, tS := rfl }
  have T2 : ErrC K P.main.file mg L "InvalidForm" "InvalidForm.__init__" (sIni 2) c2 := { gC := PySem.W.mg_of X G a2, cls := ⟨_, _, _, _, _, _, _, _, _, _, _, _, _, _, x2⟩, sa := sa2, ga := ga2, gg := gg2, ca := ca2, nv := nv2, ty := ty2, kp := kp2, init := ⟨_, i2, t2, _, _, _, _, _, _, _, _, _, l2, cd2, ⟨_, _, _, _, _, v2, w2⟩, _, _, _, ce_2⟩, tA := ⟨_, _, rfl⟩, tB := ⟨_, _, _, _, _, _, _, _, _, _, _, rfl, fun env => ⟨_, rfl⟩⟩, tS := rfl }
  have T3 : ErrC K P.main.file mg L "InvalidNumber" "InvalidNumber.__init__" (sIni 3) c3 := { gC := PySem.W.mg_of X G a3, cls := ⟨_, _, _, _, _, _, _, _, _, _, _, _, _, _, x3⟩, sa := sa3, ga := ga3, gg := gg3, ca := ca3, nv := nv3, ty := ty3, kp := kp3, init := ⟨_, i3, t3, _, _, _, _, _, _, _, _, _, l3, cd3, ⟨_, _, _, _, _, v3, w3⟩, _, _, _, ce_3⟩, tA := ⟨_, _, rfl⟩, tB := ⟨_, _, _, _, _, _, _, _, _, _, _, rfl, fun env => ⟨_, rfl⟩⟩, tS := rfl }
  have T4 : ErrC K P.main.file mg L "InvalidPlace" "InvalidPlace.__init__" (sIni 4) c4 := { gC := PySem.W.mg_of X G a4, cls := ⟨_, _, _, _, _, _, _, _, _, _, _, _, _, _, x4⟩, sa := sa4, ga := ga4, gg := gg4, ca := ca4, nv := nv4, ty := ty4, kp := kp4, init := ⟨_, i4, t4, _, _, _, _, _, _, _, _, _, l4, cd4, ⟨_, _, _, _, _, v4, w4⟩, _, _, _, ce_4⟩, tA := ⟨_, _, rfl⟩, tB := ⟨_, _, _, _, _, _, _, _, _, _, _, rfl, fun env => ⟨_, rfl⟩⟩, tS := rfl }
  have T5 : ErrC K P.main.file mg L "UnknownName" "UnknownName.__init__" (sIni 5) c5 := { gC := PySem.W.mg_of X G a5, cls := ⟨_, _, _, _, _, _, _, _, _, _, _, _, _, _, x5⟩, sa := sa5, ga := ga5, gg := gg5, ca := ca5, nv := nv5, ty := ty5, kp := kp5, init := ⟨_, i5, t5, _, _, _, _, _, _, _, _, _, l5, cd5, ⟨_, _, _, _, _, v5, w5⟩, _, _, _, ce_5⟩, tA := ⟨_, _, rfl⟩, tB := ⟨_, _, _, _, _, _, _, _, _, _, _, rfl, fun env => ⟨_, rfl⟩⟩, tS := rfl }
  have T6 : ErrC K P.main.file mg L "NothingToUndo" "NothingToUndo.__init__" (sIni 6) c6 := { gC := PySem.W.mg_of X G a6, cls := ⟨_, _, _, _, _, _, _, _, _, _, _, _, _, _, x6⟩, sa := sa6, ga := ga6, gg := gg6, ca := ca6, nv := nv6, ty := ty6, kp := kp6, init := ⟨_, i6, t6, _, _, _, _, _, _, _, _, _, l6, cd6, ⟨_, _, _, _, _, v6, w6⟩, _, _, _, ce_6⟩, tA := ⟨_, _, rfl⟩, tB := ⟨_, _, _, _, _, _, _, _, _, _, _, rfl, fun env => ⟨_, rfl⟩⟩, tS := rfl }
  have T7 : ErrC K P.main.file mg L "Unreadable" "Unreadable.__init__" (sIni 7) c7 := { gC := PySem.W.mg_of X G a7, cls := ⟨_, _, _, _, _, _, _, _, _, _, _, _, _, _, x7⟩, sa := sa7, ga := ga7, gg := gg7, ca := ca7, nv := nv7, ty := ty7, kp := kp7, init := ⟨_, i7, t7, _, _, _, _, _, _, _, _, _, l7, cd7, ⟨_, _, _, _, _, v7, w7⟩, _, _, _, ce_7⟩, tA := ⟨_, _, rfl⟩, tB := ⟨_, _, _, _, _, _, _, _, _, _, _, rfl, fun env => ⟨_, rfl⟩⟩, tS := rfl }
  have T : ErrTxt K P.main.file mg L (fun i => ([c0, c1, c2, c3, c4, c5, c6, c7] : List Addr).getD i 0) := ⟨TL, T0, T1, T2, T3, T4, T5, T6, T7, fun i j hi hj e => ?_, fun i hi => ?_⟩
  · have Z : Free mg := ⟨PySem.W.mg_none_of X G z1, PySem.W.mg_none_of X G z2, PySem.W.mg_none_of X G z3, PySem.W.mg_none_of X G z4, PySem.W.mg_none_of X G z5, PySem.W.mg_none_of X G z6, PySem.W.mg_none_of X G z7, PySem.W.mg_none_of X G z8⟩
    have FR := fun_mk (st := sRng) lR c_R k_R
    have FD := fun_mk (st := sDraw) lD c_D k_D
    have FF := fun_mk (st := sFlags) lF c_F k_F
    have FM := fun_mk (st := sMade) lM c_M k_M
    have FW := fun_mk (st := sLaw) lW c_W k_W
    have bR := FR.binds (ps := ["script"]) fun _ _ _ _ _ _ us hl => match us, hl with | [_], _ => rfl
    have bD := FD.binds (ps := ["rng", "limit"]) fun _ _ _ _ _ _ us hl => match us, hl with | [_, _], _ => rfl
    have bF := FF.binds (ps := ["error"]) fun _ _ _ _ _ _ us hl => match us, hl with | [_], _ => rfl
    have bM := FM.binds (ps := ["number", "what", "by_name"]) fun _ _ _ _ _ _ us hl => match us, hl with | [_, _, _], _ => rfl
    exact ⟨_, fun s v => .of_eq rfl, fun base _ _ => ok_law T Z ht FW FR FD FF FM bR bD bF bM (PySem.W.mg_of X G aR) (PySem.W.mg_of X G aD) (PySem.W.mg_of X G aF) (PySem.W.mg_of X G aM)⟩
  · have hi' : i < ([c0, c1, c2, c3, c4, c5, c6, c7] : List Addr).length := hi
    have hj' : j < ([c0, c1, c2, c3, c4, c5, c6, c7] : List Addr).length := hj
    have e' : ([c0, c1, c2, c3, c4, c5, c6, c7] : List Addr)[i] = ([c0, c1, c2, c3, c4, c5, c6, c7] : List Addr)[j] := by
      have e1 : ([c0, c1, c2, c3, c4, c5, c6, c7] : List Addr).getD i 0 = ([c0, c1, c2, c3, c4, c5, c6, c7] : List Addr).getD j 0 := e
      rw [getD_at hi', getD_at hj'] at e1
      exact e1
    exact (List.getElem_inj nd).mp e'
  · have hi' : i < ([c0, c1, c2, c3, c4, c5, c6, c7] : List Addr).length := hi
    show ([c0, c1, c2, c3, c4, c5, c6, c7] : List Addr).getD i 0 ≠ L
    rw [getD_at hi']
    exact nl _ (List.getElem_mem hi')
end Lw
open PySem PySem.W PyProof.Rows
set_option maxRecDepth 100000 in
set_option maxHeartbeats 0 in
theorem PySem.Challenge.cw_lineends_k01_errors_and_their_values_holds : PySem.Challenge.rw_lineends_k01_errors_and_their_values.Holds := by
  w_on; o_law; k_head; (case hw => w_witness2)
  k_fill
  refine Lx.endG (l := PySem.Challenge.rw_lineends_k01_errors_and_their_values) (n := 63) (k := 4) (x := "script") (CX := fun _ => L2.CX0) (sp := fun w => Lw.spLaw _) rfl (by decide) rfl ⟨rfl, by decide, by decide⟩ (fun w h Y => PySem.W.kIn_of Y) ?F (fun _ _ a ns hl hS => ⟨a, ns, rfl, hS, hl, fun _ => rfl⟩) (fun _ _ _ _ _ h => h)
  case F =>
    intro w mg fa h KX G hmg
    refine' Lw.all_mk KX G hmg (by decide +kernel) ?aL ?xL ?iL ?tL ?eL ?oq ?sp ?tk ?a0 ?x0 ?sa0 ?ga0 ?gg0 ?ca0 ?nv0 ?ty0 ?kp0 ?i0 ?t0 ?l0 ?cd0 ?v0 ?w0 ?ce_0 ?a1 ?x1 ?sa1 ?ga1 ?gg1 ?ca1 ?nv1 ?ty1 ?kp1 ?i1 ?t1 ?l1 ?cd1 ?v1 ?w1 ?ce_1 ?a2 ?x2 ?sa2 ?ga2 ?gg2 ?ca2 ?nv2 ?ty2 ?kp2 ?i2 ?t2 ?l2 ?cd2 ?v2 ?w2 ?ce_2 ?a3 ?x3 ?sa3 ?ga3 ?gg3 ?ca3 ?nv3 ?ty3 ?kp3 ?i3 ?t3 ?l3 ?cd3 ?v3 ?w3 ?ce_3 ?a4 ?x4 ?sa4 ?ga4 ?gg4 ?ca4 ?nv4 ?ty4 ?kp4 ?i4 ?t4 ?l4 ?cd4 ?v4 ?w4 ?ce_4 ?a5 ?x5 ?sa5 ?ga5 ?gg5 ?ca5 ?nv5 ?ty5 ?kp5 ?i5 ?t5 ?l5 ?cd5 ?v5 ?w5 ?ce_5 ?a6 ?x6 ?sa6 ?ga6 ?gg6 ?ca6 ?nv6 ?ty6 ?kp6 ?i6 ?t6 ?l6 ?cd6 ?v6 ?w6 ?ce_6 ?a7 ?x7 ?sa7 ?ga7 ?gg7 ?ca7 ?nv7 ?ty7 ?kp7 ?i7 ?t7 ?l7 ?cd7 ?v7 ?w7 ?ce_7 ?aR ?lR ?c_R ?k_R ?aD ?lD ?c_D ?k_D ?aF ?lF ?c_F ?k_F ?aM ?lM ?c_M ?k_M ?aW ?lW ?c_W ?k_W ?z1 ?z2 ?z3 ?z4 ?z5 ?z6 ?z7 ?z8 ?nd ?nl
    (case aL => k_is)
    (case xL => k_is)
    (case iL => k_is)
    (case tL => k_is)
    (case eL => k_is)
    (case oq => k_is)
    (case sp => k_is)
    (case tk => k_is)
    (case a0 => k_is)
    (case x0 => k_is)
    (case sa0 => k_is)
    (case ga0 => k_is)
    (case gg0 => k_is)
    (case ca0 => k_is)
    (case nv0 => k_is)
    (case ty0 => k_is)
    (case kp0 => k_is)
    (case i0 => k_is)
    (case t0 => k_is)
    (case l0 => k_is)
    (case cd0 => k_is)
    (case v0 => k_is)
    (case w0 => rfl)
    (case ce_0 => k_is)
    (case a1 => k_is)
    (case x1 => k_is)
    (case sa1 => k_is)
    (case ga1 => k_is)
    (case gg1 => k_is)
    (case ca1 => k_is)
    (case nv1 => k_is)
    (case ty1 => k_is)
    (case kp1 => k_is)
    (case i1 => k_is)
    (case t1 => k_is)
    (case l1 => k_is)
    (case cd1 => k_is)
    (case v1 => k_is)
    (case w1 => rfl)
    (case ce_1 => k_is)
    (case a2 => k_is)
    (case x2 => k_is)
    (case sa2 => k_is)
    (case ga2 => k_is)
    (case gg2 => k_is)
    (case ca2 => k_is)
    (case nv2 => k_is)
    (case ty2 => k_is)
    (case kp2 => k_is)
    (case i2 => k_is)
    (case t2 => k_is)
    (case l2 => k_is)
    (case cd2 => k_is)
    (case v2 => k_is)
    (case w2 => rfl)
    (case ce_2 => k_is)
    (case a3 => k_is)
    (case x3 => k_is)
    (case sa3 => k_is)
    (case ga3 => k_is)
    (case gg3 => k_is)
    (case ca3 => k_is)
    (case nv3 => k_is)
    (case ty3 => k_is)
    (case kp3 => k_is)
    (case i3 => k_is)
    (case t3 => k_is)
    (case l3 => k_is)
    (case cd3 => k_is)
    (case v3 => k_is)
    (case w3 => rfl)
    (case ce_3 => k_is)
    (case a4 => k_is)
    (case x4 => k_is)
    (case sa4 => k_is)
    (case ga4 => k_is)
    (case gg4 => k_is)
    (case ca4 => k_is)
    (case nv4 => k_is)
    (case ty4 => k_is)
    (case kp4 => k_is)
    (case i4 => k_is)
    (case t4 => k_is)
    (case l4 => k_is)
    (case cd4 => k_is)
    (case v4 => k_is)
    (case w4 => rfl)
    (case ce_4 => k_is)
    (case a5 => k_is)
    (case x5 => k_is)
    (case sa5 => k_is)
    (case ga5 => k_is)
    (case gg5 => k_is)
    (case ca5 => k_is)
    (case nv5 => k_is)
    (case ty5 => k_is)
    (case kp5 => k_is)
    (case i5 => k_is)
    (case t5 => k_is)
    (case l5 => k_is)
    (case cd5 => k_is)
    (case v5 => k_is)
    (case w5 => rfl)
    (case ce_5 => k_is)
    (case a6 => k_is)
    (case x6 => k_is)
    (case sa6 => k_is)
    (case ga6 => k_is)
    (case gg6 => k_is)
    (case ca6 => k_is)
    (case nv6 => k_is)
    (case ty6 => k_is)
    (case kp6 => k_is)
    (case i6 => k_is)
    (case t6 => k_is)
    (case l6 => k_is)
    (case cd6 => k_is)
    (case v6 => k_is)
    (case w6 => rfl)
    (case ce_6 => k_is)
    (case a7 => k_is)
    (case x7 => k_is)
    (case sa7 => k_is)
    (case ga7 => k_is)
    (case gg7 => k_is)
    (case ca7 => k_is)
    (case nv7 => k_is)
    (case ty7 => k_is)
    (case kp7 => k_is)
    (case i7 => k_is)
    (case t7 => k_is)
    (case l7 => k_is)
    (case cd7 => k_is)
    (case v7 => k_is)
    (case w7 => rfl)
    (case ce_7 => k_is)
    (case aR => k_is)
    (case lR => k_is)
    (case c_R => k_is)
    (case k_R => k_is)
    (case aD => k_is)
    (case lD => k_is)
    (case c_D => k_is)
    (case k_D => k_is)
    (case aF => k_is)
    (case lF => k_is)
    (case c_F => k_is)
    (case k_F => k_is)
    (case aM => k_is)
    (case lM => k_is)
    (case c_M => k_is)
    (case k_M => k_is)
    (case aW => k_is)
    (case lW => k_is)
    (case c_W => k_is)
    (case k_W => k_is)
    (case z1 => k_is)
    (case z2 => k_is)
    (case z3 => k_is)
    (case z4 => k_is)
    (case z5 => k_is)
    (case z6 => k_is)
    (case z7 => k_is)
    (case z8 => k_is)
    (case nd => decide)
    (case nl => decide)
