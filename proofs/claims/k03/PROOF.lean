import PyProof.Rows.All
import Wide.All
import OpenK.AllK
import Wide.FinOn
import KE.KFromBytes
import KE.KExcSuper
import HandS.Base
import HandS.Call
import HandS.Exc
import HandS.Ends
import HandS.Words
import KE.KExcIs
import HandS.ForExc
import HandS.ForMost
import HandS.IsInst
import HandS.Walk
import HandS.TupAny
import HandS.More
import PyProof.WalkInts
import KE.GoesMore
import PyProof.EnumMake
import PyProof.EnumFor
import HandS.Wide
import HandS.WideMore
import PyProof.ReprBulk
import HandS.MakeKwOnly
import PyProof.StrOps2
import HandS.Style
import PySem.Challenge.RW_lineends_k03_runs_converted
set_option Elab.async false
set_option linter.all false
set_option maxRecDepth 100000
set_option maxHeartbeats 4000000
/-! An own error class over ValueError, called by position or by keyword: what it leaves. -/
namespace Lx
open PySem PySem.HandSPX
open PySem.W (Looks)
section
variable {M : Model} {prog : Program} {w : World} {A : Around} {E : Value → Shared → Prop} {R : Result → Shared → Prop}
variable {h : Heap} {gn : Array GenState} {dr : Drawn} {tk : Nat} {os : OsState}
variable {nm q : Str} {C N : Addr} {bs bm bmB : List Value} {hd : Bool} {sn : List Str} {sub : List Value} {ab : Bool} {col : Option Bool} {dd : Option Addr} {k0 k1 k2 k3 k5 : Option Value} {B nid iid : String}
/-- the maker's own check, with keywords -/
theorem newCheck (F : ExcBaseFacts B nid iid bmB) (hT : ∀ Y : String, bm.contains (.type Y) = bmB.contains (.type Y)) {pos : List Value} {kw : List (Str × Value)} {Q : Unit → Shared → Prop}
    (hC : h.get? C = some (excClassObj nm q C N bs bm hd sn sub ab col dd k0 k1 k2 k3 k5 nid)) (hq : Q () ⟨h, gn, dr, tk, os⟩) :
    wpAny M A (checkBuiltinCall nid ⟨.ref C :: pos, kw⟩) Q E ⟨h, gn, dr, tk, os⟩ := by
  have c0 : (Value.ref C :: bm).contains (.type B) = true := by
    rw [List.contains_cons, hT, F.hasB, Bool.or_true]
  have c1 := F.noStar
  simp only [checkBuiltinCall, F.newKind, F.newSplit, F.newRow]
  repeat (first
    | refine wpAny_loadPart_at hC ?_
    | (refine wpAny_isSubtype_exc hC ?_; rw [c0])
    | refine wpAny_staticBase_exc hC ?_
    | refine wpAny_madeBy_exc hC ?_
    | simp only [bne_self_eq_false, Bool.false_eq_true, if_false]
    | wp_step)
  exact hq
/-- the maker: the arguments by position alone are laid -/
theorem newMakes (F : ExcBaseFacts B nid iid bmB) (hT : ∀ Y : String, bm.contains (.type Y) = bmB.contains (.type Y)) {pos : List Value} {kw : List (Str × Value)}
    (hC : h.get? C = some (excClassObj nm q C N bs bm hd sn sub ab col dd k0 k1 k2 k3 k5 nid)) (hl : pos.length ≤ sizeLine)
    (hq : R (.ok (.ret (.ref (h.objs.size + 1)))) ⟨(h.push (W.kdv_tup pos)).push (excO C h.objs.size), gn, dr, tk, os⟩) :
    codeAny (model prog w) A (.builtin nid ⟨.ref C :: pos, kw⟩) R ⟨h, gn, dr, tk, os⟩ := by
  have e1 := F.ends
  have c0 : (Value.ref C :: bm).contains (.type B) = true := by
    rw [List.contains_cons, hT, F.hasB, Bool.or_true]
  have c1 : (Value.ref C :: bm).contains (.type "AttributeError") = false := by
    rw [List.contains_cons, hT, F.noAttr]; rfl
  have c2 : (Value.ref C :: bm).contains (.type "NameError") = false := by
    rw [List.contains_cons, hT, F.noName]; rfl
  refine codeAny_builtinAt F.entry ?_
  unfold Builtin.«BaseException.__new__»
  refine wpAt_bind ?_
  show wpAt _ _ _ (stack >>= _) _ _ _
  refine wpAt_bind (wpAt_stack fun p below => wpAt_of_wpAny ?_)
  wp_walk
  refine wpAt_of_wpAny ?_
  rw [F.owner]
  repeat (first
    | with_reducible refine wpAny_madeHere_exc F.canon hC ?_
    | with_reducible refine wpAny_loadPart_at hC ?_
    | (with_reducible refine wpAny_isSubtype_exc hC ?_; first | rw [c0] | rw [c1] | rw [c2])
    | wp_step)
  show R _ _
  rw [Heap.size_push]
  exact hq
/-- the class's call: the maker, then the class's own __init__ -/
theorem typeCalls (F : ExcBaseFacts B nid iid bmB) (hT : ∀ Y : String, bm.contains (.type Y) = bmB.contains (.type Y)) {pos : List Value} {kw : List (Str × Value)} {fI : Addr} {Q : Fin → Shared → Prop}
    (hC : h.get? C = some (excClassObj nm q C N bs bm hd sn sub ab col dd k0 k1 k2 k3 k5 nid))
    (hi : Looks (model prog w) h (typeLookup (.ref C) "__init__") (some (.ref fI))) (hb : ∀ self, Looks (model prog w) h (bindSpecial (.ref fI) self) (.ref fI, [self])) (hl : pos.length ≤ sizeLine)
    (hq : codeAny (model prog w) A (.call (.ref fI) ⟨.ref (h.objs.size + 1) :: pos, kw⟩)
      (fun r s' => match r with | .ok (.ret v) => v = .none ∧ Q (.done (.ret (.ref (h.objs.size + 1)))) s' | .ok _ => False | .error e => E e s')
      ⟨(h.push (W.kdv_tup pos)).push (excO C h.objs.size), gn, dr, tk, os⟩) :
    wpAny (model prog w) A (Builtin.«type.__call__» ⟨.ref C :: pos, kw⟩) Q E ⟨h, gn, dr, tk, os⟩ := by
  repeat (first | with_reducible refine wpAny_loadPart_at hC ?_ | with_reducible refine wpAny_madeBy_exc hC ?_ | wp_step)
  refine codeAny_call_builtin_code (Code.quiet_builtin _ F.quiet) (newCheck F hT hC ?_)
  refine newMakes F hT hC hl ?_
  show wpAny _ _ _ _ _ _
  have kp : ∀ b o, h.get? b = some o → ((h.push (W.kdv_tup pos)).push (excO C h.objs.size)).get? b = some o := fun b o e => Heap.get?_push_of_some _ (Heap.get?_push_of_some _ e)
  have hC1 := kp _ _ hC
  have hg : ((h.push (W.kdv_tup pos)).push (excO C h.objs.size)).get? (h.objs.size + 1) = some (excO C h.objs.size) := by heap_get
  have hs : (Value.ref C :: bm).contains (.ref C) = true := by simp
  have i1 := hi.keeps kp
  have b1 := (hb (.ref (h.objs.size + 1))).keeps kp
  unfold isInstance
  repeat (first | with_reducible refine wpAny_loadPart_at hg ?_ | (with_reducible refine wpAny_isSubtype_exc hC1 ?_; rw [hs]) | wp_step)
  show wpAny _ _ (typeLookup (.ref C) _) _ _ _
  refine i1.at ?_
  refine wpAny_holding (wpAny_bind (b1.at ?_))
  refine wpAny_bind (wpAny_call (codeAny_mono hq fun r s' z => ?_))
  rcases r with e | (v | _ | _ | _) <;> first | exact z | exact z.elim | skip
  obtain ⟨rfl, z⟩ := z
  first
    | exact wpAny_pure (wpAny_pure z)
    | (wp_walk; exact z)
end
end Lx
namespace Lx
open PySem PySem.HandSPX
open PySem.W (Looks)
open L2 (defArgs defBody defScope)
/-! ### the text of an error's __init__ -/
def inA (a b : Pos) : Arguments := { posonlyargs := [], args := [{ arg := "self", annotation := none, pos := a }, { arg := "value", annotation := none, pos := b }], vararg := none, kwonlyargs := [], kw_defaults := [], kwarg := none, defaults := [] }
def inB (msg : Str) (a b c d e f g i j k : Pos) : List Stmt :=
  [.Expr (.Call (.Attribute (.Call (.Name "super" a) [] [] b) "__init__" c) [.Constant (.str msg) 0 d] [] e) f, .Assign [.Attribute (.Name "self" g) "value" i] (.Name "value" j) k]
def SupCall (msg : Str) (a b c d e : Pos) : Prop := ∀ env : Env, ∃ pl : Sem Bool, eval (.Call (.Attribute (.Call (.Name "super" a) [] [] b) "__init__" c) [.Constant (.str msg) 0 d] [] e) env = (do
  let ov ← attributeBase (.Call (.Name "super" a) [] [] b) "__init__" env (eval (.Call (.Name "super" a) [] [] b) env)
  standAt c.atName
  let (f, first) ← holding [ov] (getMethod ov "__init__" pl)
  callWith e f first (backTo e (starEach [.Constant (.str msg) 0 d] env)) [])
def inS : Scope := { kind := .function, names := [(PySem.Str.ofString "self", .local), (PySem.Str.ofString "value", .local), (PySem.Str.ofString "__class__", .free), (PySem.Str.ofString "super", .globalImplicit)], isGenerator := false, isCoroutine := false, more := [] }
/-- what the written part says of the errors' own base, at L -/
structure LineC (K : PySem.W.Frag) (mg : Str → Option Value) (L : Addr) : Prop where
  gL : mg "LineError" = some (.ref L)
  cls : ∃ n q N bs sn sub ab col dd k0 k1 k2 k3 k5, K.lookup L = some (excClassObj n q L N bs HandSPX.veTail true sn sub ab col dd k0 k1 k2 k3 k5 "ValueError.__new__")
  ini : PySem.W.findIn K (.ref L) "__init__" = some (some (.builtin "ValueError.__init__"))
  ty : PySem.W.typeIn K (.ref L) = some (.type "type")
  exB : PySem.W.subIn K (.ref L) (.type "BaseException") = some true
  sup : PySem.W.nsIn K mainGlobals "super" = some none
  opq : PySem.W.nsIn K cStatics "thirdparty.any" = some none
  sp : PySem.W.specialIn K (.builtin "object.__class__") "__get__" = some (some (.builtin "getset_descriptor.__get__"))
  tk : PySem.W.takesIn K (.builtin "object.__class__") = some true
/-- what the written part says of an error class at C, whose base stands at L; st is the text of its __init__, qual that def's long name, nm the class's name -/
structure ErrC (K : PySem.W.Frag) (file : Str) (mg : Str → Option Value) (L : Addr) (nm qual : Str) (st : Stmt) (C : Addr) : Prop where
  gC : mg nm = some (.ref C)
  cls : ∃ n q N bs sn sub ab col dd k0 k1 k2 k3 k5, K.lookup C = some (excClassObj n q C N bs (.ref L :: HandSPX.veTail) true sn sub ab col dd k0 k1 k2 k3 k5 "ValueError.__new__")
  sa : PySem.W.findIn K (.ref C) "__setattr__" = some (some (.builtin "object.__setattr__"))
  ga : PySem.W.findIn K (.ref C) "__getattribute__" = some (some (.builtin "BaseException.__getattribute__"))
  gg : PySem.W.findIn K (.ref C) "__getattr__" = some none
  ca : PySem.W.findIn K (.ref C) "__class__" = some (some (.builtin "object.__class__"))
  nv : PySem.W.findIn K (.ref C) "value" = some none
  ty : PySem.W.typeIn K (.ref C) = some (.type "type")
  kp : PySem.W.keepIn K (.ref C) = true
  init : ∃ fI : Addr, PySem.W.findIn K (.ref C) "__init__" = some (some (.ref fI)) ∧ PySem.W.typeIn K (.ref fI) = some (.type "function") ∧
    ∃ (oc : Value) (od : Option Addr) (doc pm : Value) (an : Option Addr) (cc cda : Addr) (ct : Value) (osl : Array (Option Value)),
      K.lookup fI = some ⟨oc, od, .func (PySem.W.fnX "__init__" qual (defArgs st) (defBody st) (defScope st) [("__class__", cc)] .none .none doc pm an (.ref cda) ct), osl⟩ ∧ PySem.W.codeIn K (.ref cda) qual = true ∧
      (∃ (cl : Value) (cd : Option Addr) (vs : Array Value) (cs : Array (Option Value)) (tf : Tok), K.lookup cda = some ⟨cl, cd, .fields vs, cs⟩ ∧ vs[2]? = some (.str file tf)) ∧
      ∃ (cl : Value) (cd : Option Addr) (cs : Array (Option Value)), K.lookup cc = some ⟨cl, cd, .cell (some (.ref C)), cs⟩
  tA : ∃ a b, defArgs st = inA a b
  tB : ∃ msg a b c d e f g i j k, defBody st = inB msg a b c d e f g i j k ∧ SupCall msg a b c d e
  tS : defScope st = inS
theorem LineC.along {K : PySem.W.Frag} {mg : Str → Option Value} {L : Addr} (T : LineC K mg L) : PySem.W.alongIn K "__init__" (.ref L :: HandSPX.veTail) = some (some (.builtin "ValueError.__init__")) := by
  obtain ⟨n, q, N, bs, sn, sub, ab, col, dd, k0, k1, k2, k3, k5, hL⟩ := T.cls
  have e := T.ini
  simp only [PySem.W.findIn, hL] at e
  exact e
/-- the chain of classes above C -/
theorem ErrC.chain {K : PySem.W.Frag} {file : Str} {mg : Str → Option Value} {L C : Addr} {nm qual : Str} {st : Stmt} (T : ErrC K file mg L nm qual st C) : ∃ cd : ClassData, PySem.W.clsIn K C = some cd ∧ cd.mro = .ref C :: .ref L :: HandSPX.veTail ∧ cd.hasDict = true := by
  obtain ⟨n, q, N, bs, sn, sub, ab, col, dd, k0, k1, k2, k3, k5, hC⟩ := T.cls
  exact ⟨{ name := n, bases := bs, mro := .ref C :: .ref L :: HandSPX.veTail, ns := N, qualname := q, hasDict := true, slotNames := sn, subclasses := sub, abstract := ab, collection := col, hasDel := false }, by unfold PySem.W.clsIn; rw [hC] <;> rfl, rfl, rfl⟩
theorem ErrC.under {K : PySem.W.Frag} {file : Str} {mg : Str → Option Value} {L C : Addr} {nm qual : Str} {st : Stmt} (T : ErrC K file mg L nm qual st C) (b : Value) : PySem.W.mroIn K C b = some ((Value.ref C :: .ref L :: HandSPX.veTail).contains b) := by
  obtain ⟨cd, e1, e2, _⟩ := T.chain
  unfold PySem.W.mroIn
  rw [e1, Option.bind_some, e2]
  rfl
section
variable {prog : Program} {w : World} {A : Around} {E : Value → Shared → Prop} {R : Result → Shared → Prop} {M : Model}
variable {h : Heap} {gn : Array GenState} {dr : Drawn} {tk : Nat} {os : OsState}
variable {nm q : Str} {C N : Addr} {bs bm bmB : List Value} {hdt : Bool} {sn : List Str} {sub : List Value} {ab : Bool} {col : Option Bool} {dd : Option Addr} {k0 k1 k2 k3 k5 : Option Value} {B nid iid : String}
theorem tcCheck {pos : List Value} {kw : List (Str × Value)} {Q : Unit → Shared → Prop} (hC : h.get? C = some (excClassObj nm q C N bs bm hdt sn sub ab col dd k0 k1 k2 k3 k5 nid)) (hq : Q () ⟨h, gn, dr, tk, os⟩) :
    wpAny M A (checkBuiltinCall "type.__call__" ⟨.ref C :: pos, kw⟩) Q E ⟨h, gn, dr, tk, os⟩ := by
  have f3 := tc_sub
  have hT : (⟨h, gn, dr, tk, os⟩ : Shared).TypeIs (.ref C) "type" := ⟨_, hC, rfl⟩
  simp only [checkBuiltinCall, tc_kind, tc_split]
  repeat (any_goals (first | assumption | with_reducible refine wpAny_loadPart_at hC ?_ | with_reducible refine wpAny_onRaise ?_ | with_reducible refine wpAny_map ?_ | wp_step))
theorem clsCalls (F : ExcBaseFacts B nid iid bmB) (hT : ∀ Y : String, bm.contains (.type Y) = bmB.contains (.type Y)) {pos : List Value} {kw : List (Str × Value)} {fI : Addr}
    (hC : h.get? C = some (excClassObj nm q C N bs bm hdt sn sub ab col dd k0 k1 k2 k3 k5 nid))
    (hi : Looks (model prog w) h (typeLookup (.ref C) "__init__") (some (.ref fI))) (hb : ∀ self, Looks (model prog w) h (bindSpecial (.ref fI) self) (.ref fI, [self])) (hl : pos.length ≤ sizeLine)
    (hq : codeAny (model prog w) (A.under (.builtin "type.__call__" ⟨.ref C :: pos, kw⟩)) (.call (.ref fI) ⟨.ref (h.objs.size + 1) :: pos, kw⟩) (W.InitBack (h.objs.size + 1) R)
      ⟨(h.push (W.kdv_tup pos)).push (excO C h.objs.size), gn, dr, tk, os⟩) :
    codeAny (model prog w) A (.call (.ref C) ⟨pos, kw⟩) R ⟨h, gn, dr, tk, os⟩ := by
  have f1 := tc_lookup
  have f2 := tc_bind (.ref C)
  have hTy : (⟨h, gn, dr, tk, os⟩ : Shared).TypeIs (.ref C) "type" := ⟨_, hC, rfl⟩
  refine codeAny_of_tree ?_
  show wpAny _ _ (callAny (.ref C) _) _ _ _
  repeat (any_goals (first | assumption | with_reducible refine wpAny_loadPart_at hC ?_ | wp_step))
  refine ⟨rfl, ?_⟩
  refine codeAny_call_builtin_at (Code.quiet_builtin _ (by decide +kernel)) entry_typeCall (tcCheck hC (typeCalls F hT hC hi hb hl ?_))
  refine codeAny_mono hq fun r s' z => ?_
  rcases r with e | (v | _ | _ | _) <;> exact z
end
end Lx
namespace Lx
open PySem PySem.HandSPX
open PySem.W (Looks)
open L2 (defArgs defBody defScope)
/-- what __init__ leaves of a fresh error at x -/
structure InitLeft (h h' : Heap) (x C dx t1 : Addr) (v : Value) : Prop where
  keep : ∀ b o, b ≠ x → h.get? b = some o → h'.get? b = some o
  obj : h'.get? x = some { cls := .ref C, dict := some dx, data := .fields #[.ref t1, .none, .none, .none, .bool false, .none] }
  big : h.objs.size ≤ dx
  ne : dx ≠ x
  ns : h'.Ns1 dx (fun y => if y = "value" then some v else none)
/-- the two ways in which the value is handed over -/
inductive Hands (v : Value) : List Value → List (Str × Value) → Prop where
  | pos : Hands v [v] []
  | kw : Hands v [] [("value", v)]
section
variable {prog : Program} {w : World} {A : Around} {E : Value → Shared → Prop} {R : Result → Shared → Prop} {M : Model} {s : Shared}
variable {K : PySem.W.Frag} {mg mb : Str → Option Value} {nm qual : Str} {st : Stmt} {C L : Addr}
theorem initRuns (TL : LineC K mg L) (T : ErrC K prog.main.file mg L nm qual st C) {x t0 fI : Addr} {v : Value} {ps : List Value} {kw : List (Str × Value)} (hv : Hands v ps kw) (htop : (prog.main.scope.names.lookup ("super" : Str)).isSome = false)
    (hfI : PySem.W.findIn K (.ref C) "__init__" = some (some (.ref fI))) (X : K.In s.heap) (G : s.heap.Ns mainGlobals mg) (gs : mg "super" = none) (B : s.heap.Ns builtinsNs mb) (bs : mb "super" = some (.type "super"))
    (hlim : s.heap.NoLimit) (hnx : K.lookup x = none) (hx : s.heap.get? x = some (excO C t0)) (hroom : A.depth < recursionLimit)
    (hq : ∀ h' tk dx t1, InitLeft s.heap h' x C dx t1 v → R (.ok (.ret .none)) { s with heap := h', toks := tk }) :
    codeAny (model prog w) A (.call (.ref fI) ⟨.ref x :: ps, kw⟩) R s := by
  obtain ⟨n, q, N, bss, sn, sub, ab, col, dd, k0, k1, k2, k3, k5, hC⟩ := T.cls
  obtain ⟨bm, ebm⟩ : ∃ bm, bm = (Value.ref L :: HandSPX.veTail) := ⟨_, rfl⟩
  rw [← ebm] at hC
  have hbm : refsVE bm = true := by rw [ebm]; rfl
  have hal := TL.along
  rw [← ebm] at hal
  obtain ⟨f2, e2, tI, oc, od, doc, pm, an, cc, cda, ct, osl, ho, hcd, ⟨cl, cd, vs, cs, tf, hco, hvs⟩, cl2, cd2, cs2, hce⟩ := T.init
  rw [hfI] at e2
  obtain rfl : fI = f2 := Value.ref.inj (Option.some.inj (Option.some.inj e2))
  obtain ⟨a1, a2, eA⟩ := T.tA
  obtain ⟨msg, p0, p1, p2, p3, p4, p5, q1, q2, q3, q4, eB, hsc⟩ := T.tB
  rw [eA, eB, T.tS] at ho
  have hcl : PySem.W.clsIn K C = some { name := n, bases := bss, mro := .ref C :: bm, ns := N, qualname := q, hasDict := true, slotNames := sn, subclasses := sub, abstract := ab, collection := col, hasDel := false } := by
    unfold PySem.W.clsIn; rw [hC] <;> rfl
  have hcC : (Value.ref C :: bm).contains (.ref C) = true := by simp
  have hbase : ∀ Y : String, bm.contains (.type Y) = HandSPX.veTail.contains (.type Y) := fun Y => refsVE_contains Y bm hbm
  refine ks_codeAny_call_defAt (fd := PySem.W.fnX "__init__" qual (inA a1 a2) (inB msg p0 p1 p2 p3 p4 p5 q1 q2 q3 q4) inS [("__class__", cc)] .none .none doc pm an (.ref cda) ct) (body := inB msg p0 p1 p2 p3 p4 p5 q1 q2 q3 q4)
    (binds := [("self", .ref x), ("value", v)]) hroom (X _ _ ho) rfl hlim (PySem.W.codeRec_of X hcd) rfl ?_ (show ∀ y ∈ inS.names, y.2 ≠ .cell by decide) (by intro y hy; simp only [List.mem_cons, List.not_mem_nil, or_false] at hy; rcases hy with rfl | rfl <;> rfl) (fun h1 hns hk => ?_) rfl rfl rfl
  · cases hv with
    | pos => exact .of_eq (by first | rfl | with_unfolding_all rfl)
    | kw => exact .of_eq (by first | rfl | with_unfolding_all rfl)
  have X1 : K.In h1 := X.keeps hk
  have hx1 := hk _ _ hx
  have hC1 := X1 _ _ hC
  have hxC : x ≠ C := fun z => by
    rw [z] at hx1
    rw [hC1] at hx1
    cases hx1
  have hL : s.heap.objs.size ≠ x := Nat.ne_of_gt (Heap.lt_size hx)
  obtain ⟨pl, hpl⟩ := hsc (callEnv (PySem.W.fnX "__init__" qual (inA a1 a2) (inB msg p0 p1 p2 p3 p4 p5 q1 q2 q3 q4) inS [("__class__", cc)] .none .none doc pm an (.ref cda) ct) s.heap.objs.size fI)
  refine ks_wpAt_execs_cons (ks_wpAt_Expr_any (ks_wpAt_MethodCall (pl := pl) ?_ hpl))
  refine ks_wpAt_super_base (env := callEnv (PySem.W.fnX "__init__" qual (inA a1 a2) (inB msg p0 p1 p2 p3 p4 p5 q1 q2 q3 q4) inS [("__class__", cc)] .none .none doc pm an (.ref cda) ct) s.heap.objs.size fI) rfl rfl rfl rfl (X1 _ _ ho) rfl rfl rfl (X1 _ _ hco) rfl hvs (by simp) htop ?_
  refine PySem.W.ks_loadName_global rfl rfl (Calls.loadGlobal_builtin (mg := mg) (mb := mb) ?_ gs ?_ bs ⟨rfl, ?_⟩)
  · obtain ⟨o, es, ep, e, r⟩ := G
    exact ⟨o, es, ep, hk _ _ e, r⟩
  · obtain ⟨o, es, ep, e, r⟩ := B
    exact ⟨o, es, ep, hk _ _ e, r⟩
  refine wpAny_loadName_free rfl rfl (c := cc) rfl ⟨_, X1 _ _ hce, rfl⟩ ?_
  refine wpAny_loadName_local (m := fun y => ([("self", .ref x), ("value", v)] : List (Str × Value)).reverse.lookup y) rfl rfl hns rfl ?_
  refine ks_wpAny_isType_cls hC1 rfl ⟨rfl, ?_⟩
  refine ks_wpAny_call_super (C := C) hC1 rfl hx1 rfl (fun c e => by cases e) (PySem.W.looks_mroIn X1 (by unfold PySem.W.mroIn; rw [hcl, Option.bind_some, if_neg (by simp), hcC])) (fun h2 hso k2' => ?_)
  have X2 : K.In h2 := X1.keeps k2'
  have hx2 := k2' _ _ hx1
  have I2 : PySem.W.InstAt h2 x (excO C t0) C none := ⟨hx2, rfl, rfl, trivial⟩
  refine PySem.W.kxs_getMethod PySem.W.kxs_ValueError hso (PySem.W.looks_opaque X2 TL.opq) (l₀ := .ref C :: bm) (l := bm) (fun A' Q' E' s' k' q' => wpAny_bind ((PySem.W.looks_clsIn X2 hcl) A' _ E' s' k' (wpAny_pure q')))
    (by simp [List.dropWhile_cons]) X2 hal (I2.type.andThen (PySem.W.looks_mroIn X2 ((T.under _).trans (by rfl)))) hxC (by decide) ?_
  have k3 : ∀ b o, h2.get? b = some o → (h2.push (PySem.W.kxs_mw "ValueError.__init__" x)).get? b = some o := fun b o e => Heap.get?_push_of_some _ e
  have hu : (h2.push (PySem.W.kxs_mw "ValueError.__init__" x)).get? h2.objs.size = some (PySem.W.kxs_mw "ValueError.__init__" x) := Heap.get?_push_at rfl rfl
  refine PySem.W.kxs_callWith (i := "ValueError.__init__") (x := x) (by rfl) ?_
  refine Calls.evalArgs_plain ?_
  refine Calls.spliced_cons (wpAny_Constant_str (k := 0) (pos := p3) (Calls.spliced_nil ⟨hu, ?_⟩))
  have hone : ([.str msg s.toks] : List Value).length ≤ sizeLine := by rw [sizeLine_eq]; exact (by decide : 1 ≤ 16777216)
  refine wpAny_call (codeAny_of_tree ?_)
  show wpAny _ _ (callAny (.ref h2.objs.size) _) _ _ _
  simp only [callAny]
  refine wpAny_bind (wpAny_load hu ?_)
  simp only [PySem.W.kxs_mw, show (Value.type "method-wrapper" == Value.type "method" || Value.type "method-wrapper" == Value.type "builtin_function_or_method" || Value.type "method-wrapper" == Value.type "method-wrapper") = true by decide, if_true]
  refine PySem.W.KFB.if_so (by decide) ?_
  refine wpAny_bind (PySem.W.check_bound_init F.excBase_ValueError.toExcCallFacts (k3 _ _ (k2' _ _ hC1)) (k3 _ _ hx2) rfl ?_)
  refine wpAny_bind (wpAny_pure (wpAny_pure ?_))
  refine ⟨plainId_quiet F.excBase_ValueError.init.plain _, codeAny_builtin F.excBase_ValueError.initEntry ?_⟩
  refine PySem.W.exc_init_tree (cls := .ref C) (t0 := t0) (dv := none) (c2 := .none) (c3 := .none) (b4 := .bool false) (k3 _ _ hx2) (by rw [sizeLine_eq]; exact (by decide : 1 ≤ 16777216)) (fun h3 k4 hx3 _ => ?_)
  show wpAt _ _ _ (execs _ _) _ _ _
  have keep3 : ∀ b o, b ≠ x → h1.get? b = some o → h3.get? b = some o := fun b o hb e => k4 b o hb (k3 _ _ (k2' _ _ e))
  have hns3 : h3.Ns s.heap.objs.size (fun y => ([("self", .ref x), ("value", v)] : List (Str × Value)).reverse.lookup y) := by
    obtain ⟨o, es, ep, e, r⟩ := hns
    exact ⟨o, es, ep, keep3 _ _ hL e, r⟩
  have X3 : K.In h3 := fun a o e => keep3 a o (fun z => by
    rw [z, hnx] at e
    cases e) (X1 a o e)
  refine ks_wpAt_execs_cons (ks_wpAt_Assign_Attr ?_)
  refine wpAt_of_wpAny (wpAny_Name (wpAny_loadName_local rfl rfl hns3 rfl ?_))
  refine wpAny_Name (wpAny_loadName_local rfl rfl hns3 rfl ?_)
  refine PySem.W.set_plain X3 (ox := excO C _) (od := none) ⟨hx3, rfl, rfl, trivial⟩ T.sa ?_
  refine exc_osa X3 hx3 hcl (show refsVE (.ref C :: bm) = true from hbm) rfl T.nv (fun h4 tk4 dx k5 dn dne hx4 hn4 => ?_)
  refine wpAt_of_wpAny (wpAny_pure ?_)
  refine hq h4 tk4 dx _ ⟨fun b o hb e => k5 b o hb (keep3 b o hb (hk b o e)), hx4, Nat.le_trans (Nat.le_of_lt hns3.lt) dn, dne, hn4⟩
end
end Lx
namespace Lx
open PySem PySem.HandSPX
/-- a made error, at e, its own dict at d -/
structure ErrMade (h h' : Heap) (e C d : Addr) (v : Value) : Prop where
  keep : ∀ b o, h.get? b = some o → h'.get? b = some o
  ebig : h.objs.size ≤ e
  obj : ∃ t1 : Addr, h'.get? e = some { cls := .ref C, dict := some d, data := .fields #[.ref t1, .none, .none, .none, .bool false, .none] }
  dbig : h.objs.size ≤ d
  ne : d ≠ e
  ns : h'.Ns1 d (fun y => if y = "value" then some v else none)
section
variable {prog : Program} {w : World} {A : Around} {R : Result → Shared → Prop} {s : Shared}
variable {K : PySem.W.Frag} {mg mb : Str → Option Value} {nm qual : Str} {st : Stmt} {C L : Addr}
theorem errMade (TL : LineC K mg L) (T : ErrC K prog.main.file mg L nm qual st C) {v : Value} {ps : List Value} {kw : List (Str × Value)} (hv : Hands v ps kw) (htop : (prog.main.scope.names.lookup ("super" : Str)).isSome = false)
    (X : K.In s.heap) (G : s.heap.Ns mainGlobals mg) (gs : mg "super" = none) (B : s.heap.Ns builtinsNs mb) (bs : mb "super" = some (.type "super")) (hlim : s.heap.NoLimit) (hroom : A.depth + 1 < recursionLimit)
    (hq : ∀ h' tk e d, ErrMade s.heap h' e C d v → R (.ok (.ret (.ref e))) { s with heap := h', toks := tk }) : codeAny (model prog w) A (.call (.ref C) ⟨ps, kw⟩) R s := by
  obtain ⟨n, q, N, bss, sn, sub, ab, col, dd, k0, k1, k2, k3, k5, hC⟩ := T.cls
  obtain ⟨fI, iC, tI, _⟩ := T.init
  obtain ⟨hp, g, dr, tk, os⟩ := s
  have kp : ∀ b o, hp.get? b = some o → ((hp.push (W.kdv_tup ps)).push (excO C hp.objs.size)).get? b = some o := fun b o e => Heap.get?_push_of_some _ (Heap.get?_push_of_some _ e)
  have hget : ((hp.push (W.kdv_tup ps)).push (excO C hp.objs.size)).get? (hp.objs.size + 1) = some (excO C hp.objs.size) := by heap_get
  have hnx : K.lookup (hp.objs.size + 1) = none := by
    cases e : K.lookup (hp.objs.size + 1) with
    | none => rfl
    | some o =>
      have z : hp.get? (hp.objs.size + 1) = some o := X _ _ e
      exact absurd (Nat.lt_of_succ_lt (Heap.lt_size z)) (Nat.lt_irrefl _)
  have hl : ps.length ≤ sizeLine := by
    cases hv with
    | pos => rw [sizeLine_eq]; exact (by decide : 1 ≤ 16777216)
    | kw => exact Nat.zero_le _
  refine clsCalls F.excBase_ValueError (fun Y => refsVE_contains Y (.ref L :: HandSPX.veTail) (by rfl)) (X _ _ hC) (W.looks_findIn X iC) (fun self => W.bind_fn X self tI) hl ?_
  refine initRuns (s := ⟨(hp.push (W.kdv_tup ps)).push (excO C hp.objs.size), g, dr, tk, os⟩) TL T hv htop iC (X.keeps kp) ?_ gs ?_ bs (hlim.keeps kp) hnx hget ?_ fun h' tk' dx t1 I => ?_
  · obtain ⟨o, es, ep, e, r⟩ := G
    exact ⟨o, es, ep, kp _ _ e, r⟩
  · obtain ⟨o, es, ep, e, r⟩ := B
    exact ⟨o, es, ep, kp _ _ e, r⟩
  · show A.depth + 1 < recursionLimit
    exact hroom
  · have z : hp.objs.size + 1 + 1 ≤ dx := by
      first
        | (simpa only [Heap.size_push] using I.big)
        | (have q := I.big; rw [Heap.size_push, Heap.size_push] at q; exact q)
    refine ⟨rfl, hq h' tk' (hp.objs.size + 1) dx ⟨fun b o e => I.keep b o (Nat.ne_of_lt (Nat.lt_succ_of_lt (Heap.lt_size e))) (kp b o e), Nat.le_succ _, ⟨t1, I.obj⟩, (show hp.objs.size ≤ dx by omega), I.ne, I.ns⟩⟩
end
end Lx
namespace Lx
open PySem PySem.Spec L2
/-- at e: an error of the class at C, its own dict at d -/
def errO (e C d : Addr) : HO := .ext fun h => ∃ t1 : Addr, h.get? e = some ({ cls := .ref C, dict := some d, data := .fields #[.ref t1, .none, .none, .none, .bool false, .none] } : Obj)
theorem errO_ok {P : Program} {w : World} {H : Hp} {h : Heap} {e C d t1 : Addr} (he : h.get? e = some ({ cls := .ref C, dict := some d, data := .fields #[.ref t1, .none, .none, .none, .bool false, .none] } : Obj)) : ObjOk P w H h e (errO e C d) :=
  ⟨⟨t1, he⟩, ⟨_, he⟩, fun _ _ ⟨t, q⟩ k => ⟨t, k _ q⟩⟩
theorem errO_at {P : Program} {w : World} {H : Hp} {h : Heap} {e C d : Addr} (hok : HOk P w H h) (he : H e = some (errO e C d)) : ∃ t1 : Addr, h.get? e = some ({ cls := .ref C, dict := some d, data := .fields #[.ref t1, .none, .none, .none, .bool false, .none] } : Obj) := by
  have x : ObjOk P w H h e (.ext fun h => ∃ t1 : Addr, h.get? e = some ({ cls := .ref C, dict := some d, data := .fields #[.ref t1, .none, .none, .none, .bool false, .none] } : Obj)) := hok e _ he
  exact x.1
/-- the fields of a made error -/
abbrev vf (v : V) : List (Str × V) := [(("value" : Str), v)]
theorem relO_vf {v : V} {u : Value} (r : RelV v u) (f : Str) : RelO (List.lookup f (vf v)) (if f = "value" then some u else none) := by
  by_cases hw : f = "value"
  · subst hw
    rw [if_pos rfl]
    have q : List.lookup ("value" : Str) (vf v) = some v := by simp [List.lookup]
    rw [q]
    exact r
  · rw [if_neg hw]
    have qw : (f == ("value" : Str)) = false := by simpa using hw
    have q2 : List.lookup f (vf v) = none := by simp [List.lookup, qw]
    rw [q2]
    trivial
section
variable {X : Cx} {pins : List (Addr × Obj)} {σ : St} {H : Hp} {s : Shared}
/-- two new objects laid at once -/
theorem laid2 {h' : Heap} {d e : Addr} {o1 o2 : HO} {t' : Nat} (I : Inv X pins σ H s) (k : ∀ b u, s.heap.get? b = some u → h'.get? b = some u) (hd : s.heap.objs.size ≤ d) (he : s.heap.objs.size ≤ e)
    (ok1 : ObjOk X.prog X.w (upd (upd H d o1) e o2) h' d o1) (ok2 : ObjOk X.prog X.w (upd (upd H d o1) e o2) h' e o2) : Inv X pins σ (upd (upd H d o1) e o2) { s with heap := h', toks := t' } := by
  have nd : H d = none := I.hok.fresh hd
  have ne : H e = none := I.hok.fresh he
  have old : ∀ b o, H b = some o → upd (upd H d o1) e o2 b = some o := fun b o q => by
    rw [upd_ne (ne_of_none q ne), upd_ne (ne_of_none q nd)]
    exact q
  have lt : ∀ (b : Addr) (o : Obj), s.heap.get? b = some o → b ≠ d ∧ b ≠ e := fun b o q => ⟨Nat.ne_of_lt (Nat.lt_of_lt_of_le (Heap.lt_size q) hd), Nat.ne_of_lt (Nat.lt_of_lt_of_le (Heap.lt_size q) he)⟩
  refine I.un (t' := t') ⟨fun b o q _ _ _ => k b o q, fun b o q _ _ _ => ⟨o.slots, k b o q⟩, fun b o q n _ => ?_, fun b o q _ => ⟨o, k b o q⟩, fun b xs q => old _ _ q, fun b o u q => old _ _ q, fun b ps q => ⟨#[], by rw [old _ _ q]; simp⟩⟩ fun b o q => ?_
  · rw [upd_ne (lt b o q).2, upd_ne (lt b o q).1]
    exact n
  · by_cases h1 : b = e
    · subst h1
      rw [upd_same] at q
      cases q
      exact ok2
    · rw [upd_ne h1] at q
      by_cases h2 : b = d
      · subst h2
        rw [upd_same] at q
        cases q
        exact ok1
      · rw [upd_ne h2] at q
        exact (I.hok b o q).stay (fun c v _ z => k c v z) (fun c z => old _ _ z) fun c xs z => old _ _ z
end
/-- C(e), C(value=e): a new error and its dict -/
def tErr (C : Addr) (ta : TE) : TE := fun σ H Q => ta σ H fun v H1 => ∀ d e : Addr, H1 d = none → H1 e = none → d ≠ e → Q (.ref e) (upd (upd H1 d (.xd (vf v))) e (errO e C d))
/-- raise C(e) -/
def tErrR (C : Addr) (ta : TE) : St → Hp → XK → Prop := fun σ H Q => ta σ H fun v H1 => ∀ d : Addr, H1 d = none → Q (.ref C) (some d) (upd H1 d (.xd (vf v)))
section
variable {X : Cx} {C L : Addr} {nm qual : Str} {st : Stmt} {a : Expr} {ta : TE} {p pos kpos : Pos} {k : Nat}
theorem callErr {pins : List (Addr × Obj)} {σ : St} {H : Hp} {s : Shared} {R : Value → Shared → Prop} {E : Value → Shared → Prop} (TL : LineC X.K X.mg L) (T : ErrC X.K X.prog.main.file X.mg L nm qual st C) (hr : Room k X.A) (htop : (X.prog.main.scope.names.lookup ("super" : Str)).isSome = false) (gs : X.mg "super" = none)
    {v : Value} {ps : List Value} {kw : List (Str × Value)} (hv : Hands v ps kw) (I : Inv X pins σ H s)
    (hq : ∀ h' tk e d, ErrMade s.heap h' e C d v → R (.ref e) { s with heap := h', toks := tk }) : wpAny (model X.prog X.w) X.A (call (.ref C) ps kw) R E s := by
  obtain ⟨mb, hB, hb⟩ := I.mod.blt
  refine wpAny_call (errMade TL T hv htop I.kIn (I.mod.glob.keeps I.bk) gs (hB.keeps I.bk) ((hb _ (by decide)).trans (by decide +kernel)) I.nolimit (by have := hr.dp; omega) fun h' tk e d M => hq h' tk e d M)
theorem errEP {pins : List (Addr × Obj)} {σ : St} {H : Hp} {s : Shared} {h' : Heap} {tk : Nat} {e d : Addr} {v : V} {u : Value} {Q : VK} (I : Inv X pins σ H s) (r : RelV v u) (M : ErrMade s.heap h' e C d u)
    (q : ∀ d e : Addr, H d = none → H e = none → d ≠ e → Q (.ref e) (upd (upd H d (.xd (vf v))) e (errO e C d))) : EP X pins σ Q (.ref e) { s with heap := h', toks := tk } := by
  obtain ⟨t1, ho⟩ := M.obj
  exact ⟨.ref e, _, laid2 (o1 := .xd (vf v)) (o2 := errO e C d) I M.keep M.dbig M.ebig ⟨_, M.ns, fun f => relO_vf r f⟩ (errO_ok ho), rfl, q d e (I.hok.fresh M.dbig) (I.hok.fresh M.ebig) M.ne⟩
/-- C(e) as a value -/
theorem pe_err (TL : LineC X.K X.mg L) (T : ErrC X.K X.prog.main.file X.mg L nm qual st C) (hr : Room k X.A) (htop : (X.prog.main.scope.names.lookup ("super" : Str)).isSome = false) (gs : X.mg "super" = none) (hg : Gl X nm) (he : PE X a ta) (hdb : (nm == ("__debug__" : Str)) = false := by decide)
    (hs : starEach [a] X.env = (false, eval a X.env) :: starEach [] X.env := by rfl) (hpl : (backTo pos (starEach [] X.env)).any (·.1) = false := by rfl) : PE X (.Call (.Name nm p) [a] [] pos) (tErr C ta) := by
  refine ⟨fun pins s σ H Q I h => ?_⟩
  refine wpAny_Call_Name_kw (ld_glob I hg T.gC ?_ hdb)
  refine PySem.W.callWith_K (h₀ := X.base) I.ok.mod.kin T.kp ?_ hs hpl
  rw [hs]
  show wpAny _ _ (spliced ((false, eval a X.env) :: backTo pos (starEach [] X.env))) _ _ s
  refine Calls.spliced_cons (thn (he.run pins s σ H _ I h) fun u s1 ⟨v, H1, I1, r1, q1⟩ => ?_)
  refine Calls.spliced_nil ⟨I1.kIn, ?_⟩
  show wpAny _ _ (call (.ref C) [u]) _ _ _
  exact callErr TL T hr htop gs .pos I1 fun h' tk e d M => errEP I1 r1 M q1
/-- C(value=e) as a value -/
theorem pe_errK (TL : LineC X.K X.mg L) (T : ErrC X.K X.prog.main.file X.mg L nm qual st C) (hr : Room k X.A) (htop : (X.prog.main.scope.names.lookup ("super" : Str)).isSome = false) (gs : X.mg "super" = none) (hg : Gl X nm) (he : PE X a ta) (hdb : (nm == ("__debug__" : Str)) = false := by decide)
    (hall : (backToKw pos (keywordEach [⟨some "value", a, kpos⟩] X.env)).all (·.1.isSome) = true := by rfl) (hks : (backToKw pos (keywordEach [⟨some "value", a, kpos⟩] X.env)).filterMap (·.1) = [("value" : Str)] := by rfl)
    (hpl : ((backTo pos (starEach [] X.env)).any (·.1) || (backToKw pos (keywordEach [⟨some "value", a, kpos⟩] X.env)).any (·.1.isNone)) = false := by rfl) : PE X (.Call (.Name nm p) [] [⟨some "value", a, kpos⟩] pos) (tErr C ta) := by
  refine ⟨fun pins s σ H Q I h => ?_⟩
  refine wpAny_Call_Name_kw (ld_glob I hg T.gC ?_ hdb)
  refine PySem.W.callWith_KW0 (h₀ := X.base) I.ok.mod.kin T.kp hall ?_ hpl
  refine thn ((pk_cons he pk_nil).run pos pins s σ H (fun vs H1 => match vs with | [v] => ∀ d e : Addr, H1 d = none → H1 e = none → d ≠ e → Q (.ref e) (upd (upd H1 d (.xd (vf v))) e (errO e C d)) | _ => False) I h) fun us s1 ⟨vs, H1, I1, r1, q1⟩ => ⟨I1.kIn, ?_⟩
  rw [hks]
  cases r1 with
  | nil => exact q1.elim
  | cons rv rn =>
    cases rn with
    | nil => exact callErr TL T hr htop gs .kw I1 fun h' tk e d M => errEP I1 rv M q1
    | cons _ _ => exact q1.elim
/-- raise C(e): what makes the error -/
theorem pmk_err (TL : LineC X.K X.mg L) (T : ErrC X.K X.prog.main.file X.mg L nm qual st C) (hr : Room k X.A) (htop : (X.prog.main.scope.names.lookup ("super" : Str)).isSome = false) (gs : X.mg "super" = none) (hg : Gl X nm) (he : PE X a ta) (hdb : (nm == ("__debug__" : Str)) = false := by decide)
    (hs : starEach [a] X.env = (false, eval a X.env) :: starEach [] X.env := by rfl) (hpl : (backTo pos (starEach [] X.env)).any (·.1) = false := by rfl) : PMk X (.Call (.Name nm p) [a] [] pos) (tErrR C ta) := by
  intro pins s σ H Q I h
  refine wpAny_Call_Name_kw (ld_glob I hg T.gC ?_ hdb)
  refine PySem.W.callWith_K (h₀ := X.base) I.ok.mod.kin T.kp ?_ hs hpl
  rw [hs]
  show wpAny _ _ (spliced ((false, eval a X.env) :: backTo pos (starEach [] X.env))) _ _ s
  refine Calls.spliced_cons (thn (he.run pins s σ H _ I h) fun u s1 ⟨v, H1, I1, r1, q1⟩ => ?_)
  refine Calls.spliced_nil ⟨I1.kIn, ?_⟩
  show wpAny _ _ (call (.ref C) [u]) _ _ _
  refine callErr TL T hr htop gs .pos I1 fun h' tk e d M => ?_
  obtain ⟨t1, hoe⟩ := M.obj
  have hns := M.ns
  obtain ⟨G', g1, g2⟩ := restrict h' fun b => decide (b ≠ e)
  have gk : ∀ b, b ≠ e → G'.get? b = h'.get? b := fun b hb => g1 b (decide_eq_true hb)
  have ge : G'.get? e = none := g2 e (by simp)
  have old : ∀ b o, s1.heap.get? b = some o → G'.get? b = some o := fun b o q => (gk b (Nat.ne_of_lt (Nat.lt_of_lt_of_le (Heap.lt_size q) M.ebig))).trans (M.keep b o q)
  have ob : ObjOk X.prog X.w (upd H1 d (.xd (vf v))) G' d (.xd (vf v)) := ⟨_, hns.at (fun o q => (gk d M.ne).trans q), fun f => relO_vf r1 f⟩
  have J : Inv X pins σ (upd H1 d (.xd (vf v))) { s1 with heap := G', toks := tk } := I1.laid (t' := tk) old M.dbig ob
  have r : Raises X (.ref C) := raises_own ((T.under _).trans (by rfl)) T.ty
  refine ⟨e, _, _, { s1 with heap := G', toks := tk }, _, .ref C, some d, rfl, J, fun b o q => ?_, ge, hoe, ⟨rfl, rfl⟩, rfl, rfl, ?_, rfl, I1.bare, r, q1 d (I1.hok.fresh M.dbig)⟩
  · by_cases hb : b = e
    · have q' : G'.get? b = some o := q
      rw [hb, ge] at q'
      cases q'
    · exact (gk b hb).symm.trans q
  · rw [upd_ne (Ne.symm M.ne)]
    exact I1.hok.fresh M.ebig
/-- the error's class is asked for -/
theorem kitErr (TL : LineC X.K X.mg L) (T : ErrC X.K X.prog.main.file X.mg L nm qual st C) {x : Addr} {ox : Obj} {od : Option Obj} : PySem.W.KitX X.K (.ref x) (.ref C) (fun h => PySem.W.InstAt h x ox C od) := by
  obtain ⟨cd, e1, e2, e3⟩ := T.chain
  exact PySem.W.kitx_exc (by rw [e1]; rfl) T.ga T.gg ((T.under _).trans (by rfl)) T.ca TL.sp TL.tk ((T.under _).trans (by rfl))
/-- isinstance(e, c), e a made error, c a class of the program (at D) or a built-in one -/
def rIsErr (K : PySem.W.Frag) : List V → Hp → VK → Prop := fun xs H Q => ∃ (e C d : Addr) (v : V) (c : V) (u : Value) (b : Bool), xs = [.ref e, c] ∧ H e = some (errO e C d) ∧ H d = some (.xd (vf v)) ∧ ClsV c u ∧ PySem.W.kitOne K (.ref C) u = some b ∧
  (∃ (file : Str) (mg : Str → Option Value) (L : Addr) (nm qual : Str) (st : Stmt), LineC K mg L ∧ ErrC K file mg L nm qual st C) ∧ Q (.bl b) H
theorem call_isErr : CallR X (.builtin "isinstance") (rIsErr X.K) := by
  intro pins s σ H xs us Q I r h
  obtain ⟨e, C', d, v, c, u, b, rfl, he, hd, hc, hk, ⟨file, mg, L', nm', qual', st', TL, T⟩, q⟩ := h
  obtain ⟨u1, u2, rfl, r1, r2⟩ := vals2 r
  obtain rfl : u1 = Value.ref e := r1
  have e2 := hc.eq r2
  subst e2
  obtain ⟨t1, ho⟩ := errO_at I.hok he
  obtain ⟨mA, hns, _⟩ := (show ∃ mA, s.heap.Ns1 d mA ∧ ∀ f, RelO ((vf v).lookup f) (mA f) from I.hok d _ hd)
  obtain ⟨od, hod, _⟩ := lookIn_ns hns
  obtain ⟨cd, q1, q2, q3⟩ := T.chain
  have Z : PySem.W.KitX X.K (.ref e) (.ref C') (fun h => PySem.W.InstAt h e { cls := .ref C', dict := some d, data := .fields #[.ref t1, .none, .none, .none, .bool false, .none] } C' (some od)) :=
    PySem.W.kitx_exc (by rw [q1]; rfl) T.ga T.gg ((T.under _).trans (by rfl)) T.ca TL.sp TL.tk ((T.under _).trans (by rfl))
  exact PySem.W.kia_one Z I.kIn ⟨ho, rfl, rfl, hod⟩ hk (fun z => nomatch z) fun tk => ⟨.bl b, H, I.tok tk, rfl, q⟩
/-- e.value, e a made error -/
def tErrV (K : PySem.W.Frag) (te : TE) : TE := fun σ H Q => te σ H fun x H1 => ∃ (e C d : Addr) (v : V), x = .ref e ∧ H1 e = some (errO e C d) ∧ H1 d = some (.xd (vf v)) ∧
  (∃ (file : Str) (mg : Str → Option Value) (L : Addr) (nm qual : Str) (st : Stmt), LineC K mg L ∧ ErrC K file mg L nm qual st C) ∧ Q v H1
theorem pe_errV {e : Expr} {te : TE} (he : PE X e te) (hb : attributeBase e "value" X.env (eval e X.env) = eval e X.env := by rfl) : PE X (.Attribute e "value" pos) (tErrV X.K te) := by
  refine ⟨fun pins s σ H Q I h => ?_⟩
  refine attr_of hb (thn (he.run pins s σ H _ I h) fun u s1 hh => ?_)
  obtain ⟨x, H1, I1, rx, e', C', d, v, ex, hoe, hd, ⟨file, mg, L', nm', qual', st', TL, T⟩, q⟩ := hh
  subst ex
  obtain rfl : u = Value.ref e' := rx
  obtain ⟨t1, ho⟩ := errO_at I1.hok hoe
  obtain ⟨mA, hns, hr⟩ := (show ∃ mA, s1.heap.Ns1 d mA ∧ ∀ f, RelO ((vf v).lookup f) (mA f) from I1.hok d _ hd)
  obtain ⟨od, hod, hl⟩ := lookIn_ns hns
  have l : List.lookup ("value" : Str) (vf v) = some v := by simp [List.lookup]
  obtain ⟨u, hu, ru⟩ := RelO.some_of (v := v) (o := mA "value") (by rw [← l]; exact hr "value")
  have J : PySem.W.InstAt s1.heap e' { cls := .ref C', dict := some d, data := .fields #[.ref t1, .none, .none, .none, .bool false, .none] } C' (some od) := ⟨ho, rfl, rfl, hod⟩
  obtain ⟨cd, q1, q2, q3⟩ := T.chain
  have hdict : PySem.W.hasDictIn X.K C' = true := by
    unfold PySem.W.hasDictIn
    rw [q1]
    simpa using q3
  exact HandSPX.exc_get I1.kIn J T.ga T.gg ((T.under _).trans (by rfl)) (PySem.W.findObj_own hdict T.nv rfl (by rw [hl, hu])) (handed_of ru) ⟨v, H1, I1.tok _, ru, q⟩
end
end Lx
namespace Lx
open PySem PySem.Spec L2 PyProof.Rows
/-! ### min of a tuple of ints -/
section
variable {prog : Program} {w : World} {A : Around} {E : Value → Shared → Prop} {s : Shared} {l : Addr}
variable {its : List Value} {ns : List Int} {Q : Value → Shared → Prop}
theorem min_rawT (hh : A.handled = none) (hl : s.heap.IsTuple l its.toArray) (hi : IntsAre its ns) (hne : 0 < ns.length)
    (h : ∀ h' tk M t', (∀ b o, s.heap.get? b = some o → h'.get? b = some o) → M ∈ ns → (∀ a, a ∈ ns → M ≤ a) → Q (.int M t') { s with heap := h', toks := tk }) : wpAny (model prog w) A (call (.builtin "min") [.ref l]) Q E s := by
  obtain ⟨xs, e⟩ := hi.allInts.items
  have hn : numsOf (intItems xs).toList = ns := by rw [← e]; exact hi.numsOf
  rw [nums_intItems] at hn
  subst hn
  rw [e] at hl
  have hsz : 0 < xs.size := by simpa using hne
  have hlt : l < s.heap.objs.size := by obtain ⟨_, e, _⟩ := hl; exact Heap.lt_size e
  refine call_min_walk (wpAny_pyIter_tuple hl ?_)
  refine ⟨_, _, _, _, _, _, _, rfl, Walks.tuple (A := A.in1) hh _ l (Nat.ne_of_lt hlt) (intItems xs), ⟨⟨_, Heap.get?_push_size _ rfl, rfl, rfl⟩, hl.at fun o e => Heap.get?_push_of_some _ e⟩, fun b hb => ?_, by simpa [intItems] using hsz, CmpOf.ints_lt (numAt xs) (fun _ _ => intItems_at), fun v h' tk hP hk => ?_⟩
  · show b < (s.heap.push _).objs.size
    rw [Heap.size_push]
    rcases List.mem_cons.mp hb with rfl | hb
    · exact Nat.lt_succ_self _
    · rcases List.mem_cons.mp hb with rfl | hb
      · exact Nat.lt_succ_of_lt hlt
      · cases hb
  · obtain ⟨t, rfl⟩ := intItems_at hP
    obtain ⟨h1, h2⟩ := argBest_lt (numAt xs) (xs.size - 1)
    have hz : (intItems xs).size = xs.size := by simp [intItems]
    refine h h' tk _ t (fun b o e => hk b o (fun hm => Nat.lt_irrefl _ ((List.mem_singleton.mp hm) ▸ Heap.lt_size e)) (Heap.get?_push_of_some _ e)) ?_ fun a ha => ?_
    · rw [numAt_eq]; exact PySem.getD_mem (by rw [List.length_map, Array.length_toList, hz]; omega)
    · obtain ⟨j, hj, rfl⟩ := mem_getD ha
      rw [List.length_map, Array.length_toList] at hj
      rw [← numAt_eq, hz]; exact h2 j (by omega)
end
def rMinT (K : PySem.W.Frag) : List V → Hp → VK → Prop := fun vs H Q => ∃ (a : Addr) (ns : List Int), vs = [V.ref a] ∧ SqT K H a (ns.map V.int) ∧ 0 < ns.length ∧ ∀ m, m ∈ ns → (∀ y, y ∈ ns → m ≤ y) → Q (.int m) H
theorem call_minT {X : Cx} (hc : X.calm = true) : CallR X (.builtin "min") (rMinT X.K) := by
  intro pins s σ H vs us Q I r h
  obtain ⟨a, ns, rfl, hs, hne, q⟩ := h
  obtain ⟨its, rv, hl, _⟩ := I.tuple hs
  rw [Vals.ref1 r]
  exact min_rawT (I.ok.hd hc) (by obtain ⟨o, h1, h2, n, h3⟩ := hl; exact ⟨o, h1, h2, n, h3⟩) rv.ints hne fun h' tk m t' hk h1 h2 => ⟨.int _, H, I.kept hk, ⟨_, rfl⟩, q m h1 h2⟩
/-! ### get of a written dict -/
def tKGet (K : PySem.W.Frag) (w : World) (td ty : TE) : TE := fun σ H Q => td σ H fun x H1 => ∃ a es n, x = .ref a ∧ KDict K w a es n ∧ ty σ H1 fun y H2 => ∃ (z : Str) (r : Option Value) (v : V), y = .str z ∧ PySem.W.nsIn K a z = some r ∧ RelV v (r.getD .none) ∧ Q v H2
theorem pe_kget {X : Cx} {o e : Expr} {apos cpos : Pos} {td ty : TE} (ho : PE X o td) (he : PE X e ty) (m : M1 X o "get" apos e cpos) : PE X (.Call (.Attribute o "get" apos) [e] [] cpos) (tKGet X.K X.w td ty) := by
  refine ⟨fun pins s σ H Q I h => ?_⟩
  refine wpAny_Call_method m.base m.few m.line PySem.F.plainAttrs_dict PySem.F.slot_dict_get PySem.F.type_dict_get (thn (ho.run pins s σ H _ I h) fun u s1 ⟨x, H1, I1, rx, a, es, n, ex, D, q1⟩ => ?_)
  subst ex
  obtain rfl : u = Value.ref a := rx
  have hm1 := PySem.W.mapOf_K (prog := X.prog) (w := X.w) I1.kIn D.at_ D.lit
  refine ⟨hm1.typeIs, fun b q => ?_, ?_⟩
  · cases q
    exact ⟨_, I1.kIn _ _ D.at_, rfl⟩
  rw [m.trees]
  refine Calls.callWith_builtin rfl (Calls.evalArgs_plain (Calls.spliced_cons (thn (he.run pins s1 σ H1 _ I1 q1) fun iv s2 ⟨y, H2, I2, ry, z, r, v, ey, e, rv, q2⟩ => Calls.spliced_nil ?_)))
  subst ey
  obtain ⟨t, rfl⟩ := ry
  have hm2 := PySem.W.mapOf_K (prog := X.prog) (w := X.w) I2.kIn D.at_ D.lit
  refine call_meetsIn PySem.F.slot_dict_get hm2.typeIs PySem.F.entry_dict_get (PySem.F.args_dict_get_2 _ _) (meets_dict_get (strKind X.prog X.w) a (strKind_is X.prog X.w z t) D.low) ⟨_, hm2, ?_⟩
  rw [PySem.W.find_K D.at_ e]
  exact ⟨v, H2, I2.tok _, rv, q2⟩
end Lx
namespace Lx
open PySem PySem.Spec L2
/-! ### enumerate(text) -/
/-- each sign of x with its place, in a new pair -/
def Itx (x : Str) : It :=
  ⟨fun i _ => i < x.cps.size, fun i H v H' => ∃ T c, v = .ref T ∧ H T = none ∧ H' = upd H T (.tup [.int (i : Nat), .str ⟨#[c]⟩]) ∧ x.cps[i]? = some c, fun i _ => x.cps.size ≤ i⟩
theorem turn_enumS {P : Program} {w : World} {K : PySem.W.Frag} {elts : List Expr} {kk : Nat} {tpos : Pos} (x : Str) (t : Tok) (e it : Addr) :
    Turn P w K (.Tuple elts kk tpos) (Itx x) [e, it] e (fun i h => (∃ old, IsEnum h e it ((i : Nat) : Int) old) ∧ h.IsStrIter it (strIterType x) x t i ∧ e ≠ it ∧ i ≤ x.cps.size) where
  mem := by simp
  obj := fun i h st b hb => by
    obtain ⟨⟨old, he⟩, ⟨o, ho, hc, hd⟩, _, _⟩ := st
    have e' : b = e ∨ b = it := by simpa using hb
    rcases e' with z | z
    · rw [z]; exact ⟨_, he, fun v q => nomatch q⟩
    · rw [z]; exact ⟨o, ho, fun v q => by rw [hd] at q; cases q⟩
  keep := fun i h h' st k => by
    obtain ⟨⟨old, he⟩, ⟨o, ho, r⟩, hne, hle⟩ := st
    exact ⟨⟨old, k e (by simp) _ he⟩, ⟨o, k it (by simp) o ho, r⟩, hne, hle⟩
  item := by
    intro X hP hw hK hc i pins s σ H E I hf st hg
    subst hP hw hK
    obtain ⟨⟨old, he⟩, hit, hne, hle⟩ := st
    have hlt : i < x.cps.size := hg
    have hel : e < s.heap.objs.size := Heap.lt_size he
    have hil : it < s.heap.objs.size := by obtain ⟨_, q, _⟩ := hit; exact Heap.lt_size q
    refine wpAny_pyNext_enum_itemD (Draws.text (A := X.A.in1) (I.ok.hd hc) it x t) he hit hlt hne (by simpa using hne) fun u h' tk hP ho hit' hT hsz hk => ?_
    obtain ⟨c, tc, hcx, rfl⟩ := hP
    refine ⟨_, rfl, wpAny_letOwnedTupleGo_enum (s := { s with heap := h', toks := tk + 1 }) ho fun h'' he' sb => ?_⟩
    have hT2 : h''.get? s.heap.objs.size = some { cls := .type "tuple", data := .seq #[.int i tk, .str ⟨#[c]⟩ tc] } := (sb.2 _ (Nat.ne_of_gt hel)).trans hT
    have new : ObjOk X.prog X.w (upd H s.heap.objs.size (.tup [.int (i : Nat), .str ⟨#[c]⟩])) h'' s.heap.objs.size (.tup [.int (i : Nat), .str ⟨#[c]⟩]) :=
      ⟨by show 2 ≤ sizeLine; decide, [.int i tk, .str ⟨#[c]⟩ tc], .cons ⟨_, rfl⟩ (.cons ⟨_, rfl⟩ .nil), ⟨_, hT2, rfl, _, rfl⟩⟩
    have I1 : Inv X pins σ (upd H s.heap.objs.size (.tup [.int (i : Nat), .str ⟨#[c]⟩])) { s with heap := h'', toks := tk + 1 } :=
      I.turnedNew (ch := [e, it]) (fun b ob hb q => (sb.2 b (fun z => hb (by simp [z]))).trans (hk b ob (fun z => hb (by simp [z])) (fun z => hb (by simp [z])) q)) hf (Nat.le_refl _) new
    refine ⟨.ref s.heap.objs.size, _, I1, rfl, ⟨_, c, rfl, I.hok.fresh (Nat.le_refl _), rfl, hcx⟩, ⟨⟨.str ⟨#[c]⟩ tc, ?_⟩, ?_, hne, hlt⟩, fun b hb => ?_⟩
    · have e1 : ((i + 1 : Nat) : Int) = (i : Int) + 1 := by omega
      rw [e1]; exact he'
    · obtain ⟨o, ho2, r⟩ := hit'
      exact ⟨o, (sb.2 it (Ne.symm hne)).trans ho2, r⟩
    · have hb' : b < s.heap.objs.size := by
        have e' : b = e ∨ b = it := by simpa using hb
        rcases e' with z | z
        · rw [z]; exact hel
        · rw [z]; exact hil
      rw [upd_ne (Nat.ne_of_lt hb')]
      exact (hf b hb).1
  done := by
    intro X hP hw hK hc i pins s σ H E I hf st hg
    subst hP hw hK
    obtain ⟨⟨old, he⟩, hit, hne, hle⟩ := st
    obtain ⟨f0, f1, f2, f3, f4, f5⟩ := hf it (by simp)
    have e1 : i = x.cps.size := Nat.le_antisymm hle hg
    subst e1
    exact wpAny_pyNext_enum_endD (Draws.text (A := X.A.in1) (I.ok.hd hc) it x t) he hit fun h' eb => ⟨rfl, I.turned (t' := s.toks) (fun b o hb q => eb b o hb q) f0 f1 f3 f4 f5⟩
  self := fun A i s Q E st h => let ⟨⟨_, he⟩, _⟩ := st; PySem.wpAny_pyIter_enum he h
def iEnumS (ta : TA) : TI := fun σ H R => ta σ H fun vs H1 => ∃ x, vs = [.str x] ∧ R (Itx x) H1
theorem pi_enumS {X : Cx} {e : Expr} {ta : TA} {p pos tpos : Pos} {elts : List Expr} {kk : Nat} (hg : Gl X "enumerate") (hm : X.mg "enumerate" = none) (ha : PA X [e] ta) (hs : starEach [e] X.env = [(false, eval e X.env)] := by rfl) :
    PI X (.Tuple elts kk tpos) (.Call (.Name "enumerate" p) [e] [] pos) (iEnumS ta) := by
  refine ⟨fun pins s σ H R I h => ?_⟩
  refine PyProof.Rows.Call_ (ld_blt I hg hm PyProof.Rows.boot_enumerate (PyProof.Rows.callWith_type1 (thn (ha.run pos pins s σ H _ I h) fun us s1 ⟨vs, H1, I1, r1, q1⟩ => ?_) hs rfl))
  obtain ⟨x, ex, q⟩ := q1
  subst ex
  cases r1 with
  | cons r rr =>
    cases rr
    obtain ⟨t, rfl⟩ := r
    refine call_enumerate_str fun h' he hit hsz hk => PySem.wpAny_pyIter_enum he ?_
    have I2 : Inv X pins σ H1 { s1 with heap := h' } := I1.kept (t' := s1.toks) hk
    refine ⟨s1.heap.objs.size + 1, [s1.heap.objs.size + 1, s1.heap.objs.size], _, _, H1, rfl, I2, turn_enumS x t (s1.heap.objs.size + 1) s1.heap.objs.size, ⟨⟨.none, he⟩, hit, Nat.succ_ne_self _, Nat.zero_le _⟩, fun b hb => ?_, q⟩
    have e' : b = s1.heap.objs.size + 1 ∨ b = s1.heap.objs.size := by simpa using hb
    have hle : s1.heap.objs.size ≤ b := by
      rcases e' with z | z
      · rw [z]; exact Nat.le_add_right _ _
      · rw [z]; exact Nat.le_refl _
    exact I1.fpOk hle (I1.hok.fresh hle)
theorem walk_enumS {z : Str} : Walk (Itx z) z.cps.size (fun _ => True) (YPair (fun i => some (.int (i : Nat))) (fun i => z.cps[i]?.map fun c => V.str ⟨#[c]⟩)) :=
  ⟨fun _ _ hi _ => hi, fun _ _ => Nat.le_refl _, fun i H v H' _ _ y => by
    obtain ⟨T, c, h1, h2, h3, h4⟩ := y
    exact ⟨T, .int (i : Nat), .str ⟨#[c]⟩, h1, h2, h3, rfl, by simp [h4]⟩⟩
end Lx
namespace Lx
open PySem PySem.Spec L2
/-! ### sizes of numbers -/
def Sm (n : Nat) (x : Int) : Prop := x.natAbs < 2 ^ n
theorem Sm.mono {n m : Nat} {x : Int} (h : Sm n x) (k : n ≤ m) : Sm m x := Nat.lt_of_lt_of_le h (Nat.pow_le_pow_right (by decide) k)
theorem Sm.add {n : Nat} {x y : Int} (h : Sm n x) (k : Sm n y) : Sm (n + 1) (x + y) := by
  unfold Sm at *
  have := Nat.pow_succ 2 n
  omega
theorem Sm.mul {n m : Nat} {x y : Int} (h : Sm n x) (k : Sm m y) : Sm (n + m) (x * y) := by
  unfold Sm at *
  rw [Int.natAbs_mul, Nat.pow_add]
  exact Nat.mul_lt_mul'' h k
theorem Sm.of_le {n : Nat} {x y : Int} (h0 : 0 ≤ x) (h1 : x ≤ y) (k : Sm n y) : Sm n x := by
  unfold Sm at *
  omega
/-! ### forms -/
inductive Fm
  | keep (b a : Int)
  | lf (b a k c : Int)
  | cr (b a k : Int)
namespace Fm
def vs : Fm → List V
  | keep b a => [.str "keep", .int b, .int a]
  | lf b a k c => [.str "lf", .int b, .int a, .int k, .int c]
  | cr b a k => [.str "cr", .int b, .int a, .int k]
def nm : Fm → Str
  | keep _ _ => "keep"
  | lf _ _ _ _ => "lf"
  | cr _ _ _ => "cr"
def b : Fm → Int
  | keep b _ => b
  | lf b _ _ _ => b
  | cr b _ _ => b
def a : Fm → Int
  | keep _ a => a
  | lf _ a _ _ => a
  | cr _ a _ => a
/-- the number of ^ in front of a break with j of them -/
def after (f : Fm) (j : Int) : Int := (if j - f.b > 0 then j - f.b else 0) + f.a
def ahead (b' a' : Int) : Fm → Fm
  | keep _ _ => keep b' a'
  | lf _ _ k c => lf b' a' k c
  | cr _ _ k => cr b' a' k
def both : Fm → Fm → Fm
  | keep b a, g => ahead (b + (if g.b - a > 0 then g.b - a else 0)) ((if a - g.b > 0 then a - g.b else 0) + g.a) g
  | lf b a k c, keep b' a' => lf b a k (after (keep b' a') c)
  | cr b a k, keep _ _ => cr b a k
  | lf b a k c, lf b' a' k' c' => lf b a (k * (after (lf b' a' k' c') c + 1) * k') c'
  | lf b a k c, cr b' a' k' => cr b a (k * (after (cr b' a' k') c + 1) * k')
  | cr b a k, lf _ _ k' c' => lf b a (k * 1 * k') c'
  | cr b a k, cr _ _ k' => cr b a (k * 1 * k')
/-- a form, its numbers below 2 ^ n -/
def Ok (n : Nat) : Fm → Prop
  | keep b a => 0 ≤ b ∧ 0 ≤ a ∧ Sm n b ∧ Sm n a
  | lf b a k c => 0 ≤ b ∧ 0 ≤ a ∧ 0 < k ∧ 0 ≤ c ∧ Sm n b ∧ Sm n a ∧ Sm n k ∧ Sm n c
  | cr b a k => 0 ≤ b ∧ 0 ≤ a ∧ 0 < k ∧ Sm n b ∧ Sm n a ∧ Sm n k
def nums : Fm → List Int
  | keep b a => [b, a]
  | lf b a k c => [b, a, k, c]
  | cr b a k => [b, a, k]
theorem Ok.mono {n m : Nat} (h : n ≤ m) : ∀ {f : Fm}, Ok n f → Ok m f
  | keep _ _, ⟨h1, h2, h3, h4⟩ => ⟨h1, h2, h3.mono h, h4.mono h⟩
  | lf _ _ _ _, ⟨h1, h2, h3, h4, h5, h6, h7, h8⟩ => ⟨h1, h2, h3, h4, h5.mono h, h6.mono h, h7.mono h, h8.mono h⟩
  | cr _ _ _, ⟨h1, h2, h3, h4, h5, h6⟩ => ⟨h1, h2, h3, h4.mono h, h5.mono h, h6.mono h⟩
theorem Ok.b0 {n : Nat} : ∀ {f : Fm}, Ok n f → 0 ≤ f.b ∧ Sm n f.b
  | keep _ _, h => ⟨h.1, h.2.2.1⟩
  | lf _ _ _ _, h => ⟨h.1, h.2.2.2.2.1⟩
  | cr _ _ _, h => ⟨h.1, h.2.2.2.1⟩
theorem Ok.a0 {n : Nat} : ∀ {f : Fm}, Ok n f → 0 ≤ f.a ∧ Sm n f.a
  | keep _ _, h => ⟨h.2.1, h.2.2.2⟩
  | lf _ _ _ _, h => ⟨h.2.1, h.2.2.2.2.2.1⟩
  | cr _ _ _, h => ⟨h.2.1, h.2.2.2.2.1⟩
theorem after_ok {n : Nat} {f : Fm} (h : Ok n f) {j : Int} (h0 : 0 ≤ j) (hj : Sm n j) : 0 ≤ after f j ∧ Sm (n + 1) (after f j) := by
  have hb := h.b0
  have ha := h.a0
  unfold after
  unfold Sm at *
  have := Nat.pow_succ 2 n
  split <;> omega
theorem vs1 (f : Fm) : f.vs[1]? = some (.int f.b) := by cases f <;> rfl
theorem vs2 (f : Fm) : f.vs[2]? = some (.int f.a) := by cases f <;> rfl
theorem vs0 (f : Fm) : f.vs[0]? = some (.str f.nm) := by cases f <;> rfl
end Fm
def FmAt (K : PySem.W.Frag) (H : Hp) (x : V) (f : Fm) : Prop := ∃ p, x = .ref p ∧ SqT K H p f.vs
theorem sameT {K : PySem.W.Frag} {H H' : Hp} {a : Addr} {xs : List V} (e : Same H H') (h : SqT K H a xs) : SqT K H' a xs := by
  rcases h with (h | ⟨o, h⟩) | h
  · exact .inl (.inl (e _ _ h))
  · exact .inl (.inr ⟨o, e _ _ h⟩)
  · exact .inr h
theorem FmAt.same {K : PySem.W.Frag} {H H' : Hp} {x : V} {f : Fm} (e : Same H H') : FmAt K H x f → FmAt K H' x f := fun ⟨p, h1, h2⟩ => ⟨p, h1, sameT e h2⟩
/-! ### runs -/
/-- a group: a tuple that is tracked -/
def PrAt (H : Hp) (v : V) (x : Int × Int) : Prop := ∃ p, v = .ref p ∧ H p = some (.tup [.int x.1, .int x.2])
inductive Prs (K : PySem.W.Frag) (H : Hp) : List V → List (Int × Int) → Prop
  | nil : Prs K H [] []
  | cons {v : V} {vs : List V} {x : Int × Int} {xs : List (Int × Int)} : PrAt H v x → Prs K H vs xs → Prs K H (v :: vs) (x :: xs)
theorem Prs.same {K : PySem.W.Frag} {H H' : Hp} (e : Same H H') : ∀ {vs : List V} {gs : List (Int × Int)}, Prs K H vs gs → Prs K H' vs gs
  | _, _, .nil => .nil
  | _, _, .cons ⟨p, h1, h2⟩ t => .cons ⟨p, h1, e _ _ h2⟩ (t.same e)
theorem Prs.len {K : PySem.W.Frag} {H : Hp} : ∀ {vs : List V} {gs : List (Int × Int)}, Prs K H vs gs → vs.length = gs.length
  | _, _, .nil => rfl
  | _, _, .cons _ t => by rw [List.length_cons, List.length_cons, t.len]
theorem Prs.get {K : PySem.W.Frag} {H : Hp} : ∀ {vs : List V} {gs : List (Int × Int)}, Prs K H vs gs → ∀ {i : Nat} {v : V}, vs[i]? = some v → ∃ x, gs[i]? = some x ∧ PrAt H v x
  | _, _, .nil, i, v, h => by simp at h
  | _, _, .cons h1 t, 0, v, h => by
    have e := Option.some.inj h
    subst e
    exact ⟨_, rfl, h1⟩
  | _, _, .cons h1 t, i + 1, v, h => t.get (i := i) h
theorem Prs.append {K : PySem.W.Frag} {H : Hp} : ∀ {vs ws : List V} {gs hs : List (Int × Int)}, Prs K H vs gs → Prs K H ws hs → Prs K H (vs ++ ws) (gs ++ hs)
  | _, _, _, _, .nil, h => h
  | _, _, _, _, .cons a t, h => .cons a (t.append h)
def GsAt (K : PySem.W.Frag) (H : Hp) (l : Addr) (gs : List (Int × Int)) : Prop := ∃ xs, SqL K H l xs ∧ Prs K H xs gs
def RnAt (K : PySem.W.Frag) (H : Hp) (x : V) (l : Addr) (r : List (Int × Int) × Int) : Prop := ∃ p, x = .ref p ∧ SqT K H p [.ref l, .int r.2] ∧ GsAt K H l r.1
theorem GsAt.same {K : PySem.W.Frag} {H H' : Hp} {l : Addr} {gs : List (Int × Int)} (e : Same H H') : GsAt K H l gs → GsAt K H' l gs := fun ⟨xs, h1, h2⟩ => ⟨xs, e.seq h1, h2.same e⟩
theorem RnAt.same {K : PySem.W.Frag} {H H' : Hp} {x : V} {l : Addr} {r : List (Int × Int) × Int} (e : Same H H') : RnAt K H x l r → RnAt K H' x l r := fun ⟨p, h1, h2, h3⟩ => ⟨p, h1, sameT e h2, h3.same e⟩
/-- groups as the document wants them, numbers below 2 ^ n -/
def GsOk (n : Nat) (gs : List (Int × Int)) : Prop := ∀ (i : Nat) (x : Int × Int), gs[i]? = some x → 1 ≤ x.1 ∧ 0 ≤ x.2 ∧ Sm n x.1 ∧ Sm n x.2 ∧ ∀ y : Int × Int, gs[i + 1]? = some y → y.2 ≠ x.2
structure RnOk (n : Nat) (r : List (Int × Int) × Int) : Prop where
  gs : GsOk n r.1
  rest : 0 ≤ r.2 ∧ Sm n r.2
  len : r.1.length ≤ 1000
def addTo (acc : List (Int × Int)) (x : Int × Int) : List (Int × Int) := match acc.getLast? with
  | some y => if y.2 = x.2 then acc.dropLast ++ [(y.1 + x.1, x.2)] else acc ++ [x]
  | none => acc ++ [x]
def merged (gs : List (Int × Int)) : List (Int × Int) := gs.foldl addTo []
def moved (f : Fm) (gs : List (Int × Int)) : List (Int × Int) := gs.map fun x => (x.1, f.after x.2)
def total (gs : List (Int × Int)) : Int := (gs.map fun x => x.1 * (x.2 + 1)).sum
def units (r : List (Int × Int) × Int) (f : Fm) : Int := total (moved f r.1) + r.2
def runAfter (r : List (Int × Int) × Int) : Fm → List (Int × Int) × Int
  | .keep b a => (merged (moved (.keep b a) r.1), r.2)
  | .lf b a k c => if k * units r (.lf b a k c) = 0 then ([], 0) else ([(k * units r (.lf b a k c), c)], 0)
  | .cr b a k => ([], k * units r (.cr b a k))
end Lx
namespace Lw
open PySem PySem.Spec L2 Lx
def topS (i : Nat) : Stmt := PySem.Challenge.pw_lineends_k03_runs_converted.main.body.getD i (.Pass ⟨0, 0, 0, 0⟩)
abbrev sChkChain : Stmt := topS 6
abbrev sChkRun : Stmt := topS 7
abbrev sFoc : Stmt := topS 11
abbrev sBoth : Stmt := topS 12
abbrev sAftKeep : Stmt := topS 13
abbrev sBefKeep : Stmt := topS 14
abbrev sOne : Stmt := topS 15
abbrev sSigns : Stmt := topS 16
abbrev sRunAft : Stmt := topS 17
abbrev sRou : Stmt := topS 18
abbrev sUnits : Stmt := topS 19
abbrev sUog : Stmt := topS 20
abbrev sMerged : Stmt := topS 21
abbrev sConv : Stmt := topS 23
abbrev sSize : Stmt := topS 24
abbrev sLRng : Stmt := topS 26
abbrev sLDraw : Stmt := topS 27
abbrev sLRun : Stmt := topS 28
abbrev sLAfter : Stmt := topS 29
abbrev sLSize : Stmt := topS 30
abbrev sLRight : Stmt := topS 31
abbrev sLaw : Stmt := topS 32
end Lw
namespace Lx
open PySem PySem.Spec L2
/-! ### one form after another -/
theorem addTo_none (x : Int × Int) : addTo [] x = [x] := rfl
theorem addTo_end (a : List (Int × Int)) (y x : Int × Int) : addTo (a ++ [y]) x = if y.2 = x.2 then a ++ [(y.1 + x.1, x.2)] else a ++ [y] ++ [x] := by
  unfold addTo
  rw [List.getLast?_concat]
  simp
theorem ends {α : Type} : ∀ l : List α, l = [] ∨ ∃ a x, l = a ++ [x]
  | [] => .inl rfl
  | x :: l => by
    rcases ends l with rfl | ⟨a, y, rfl⟩
    · exact .inr ⟨[], x, rfl⟩
    · exact .inr ⟨x :: a, y, rfl⟩
theorem merged_snoc (xs : List (Int × Int)) (x : Int × Int) : merged (xs ++ [x]) = addTo (merged xs) x := by
  unfold merged
  rw [List.foldl_append]
  rfl
theorem addTo_addTo (a : List (Int × Int)) (m m' j : Int) : addTo (addTo a (m, j)) (m', j) = addTo a (m + m', j) := by
  rcases ends a with rfl | ⟨b, z, rfl⟩
  · show addTo ([] ++ [(m, j)]) (m', j) = [(m + m', j)]
    rw [addTo_end, if_pos rfl]
    rfl
  · rw [addTo_end, addTo_end]
    by_cases e : z.2 = j
    · rw [if_pos e, if_pos e, addTo_end, if_pos rfl, Int.add_assoc]
    · rw [if_neg e, if_neg e, addTo_end, if_pos rfl]
def on (h : Int → Int) (gs : List (Int × Int)) : List (Int × Int) := gs.map fun x => (x.1, h x.2)
theorem on_snoc (h : Int → Int) (a : List (Int × Int)) (x : Int × Int) : on h (a ++ [x]) = on h a ++ [(x.1, h x.2)] := by
  unfold on
  rw [List.map_append]
  rfl
theorem merged_on_addTo (h : Int → Int) (a : List (Int × Int)) (x : Int × Int) : merged (on h (addTo a x)) = addTo (merged (on h a)) (x.1, h x.2) := by
  rcases ends a with rfl | ⟨b, y, rfl⟩
  · rfl
  · rw [addTo_end]
    by_cases e : y.2 = x.2
    · rw [if_pos e, on_snoc, merged_snoc, on_snoc, merged_snoc, ← e, addTo_addTo]
    · rw [if_neg e, on_snoc, merged_snoc]
theorem merged_on (h : Int → Int) (n : Nat) : ∀ xs : List (Int × Int), xs.length = n → merged (on h (merged xs)) = merged (on h xs) := by
  induction n with
  | zero =>
    intro xs hx
    rw [List.eq_nil_of_length_eq_zero hx]
    rfl
  | succ n ih =>
    intro xs hx
    rcases ends xs with rfl | ⟨a, x, rfl⟩
    · rfl
    · rw [merged_snoc, merged_on_addTo, ih a (by simpa using hx), on_snoc, merged_snoc]
theorem total_snoc (a : List (Int × Int)) (x : Int × Int) : total (a ++ [x]) = total a + x.1 * (x.2 + 1) := by
  unfold total
  rw [List.map_append, List.sum_append]
  simp
theorem total_addTo (h : Int → Int) (a : List (Int × Int)) (x : Int × Int) : total (on h (addTo a x)) = total (on h a) + x.1 * (h x.2 + 1) := by
  rcases ends a with rfl | ⟨b, y, rfl⟩
  · show total ([] ++ [(x.1, h x.2)]) = total [] + _
    rw [total_snoc]
  · rw [addTo_end]
    by_cases e : y.2 = x.2
    · rw [if_pos e, on_snoc, total_snoc, on_snoc, total_snoc, e, Int.add_mul, Int.add_assoc]
    · rw [if_neg e, on_snoc, total_snoc]
theorem total_on (h : Int → Int) (n : Nat) : ∀ xs : List (Int × Int), xs.length = n → total (on h (merged xs)) = total (on h xs) := by
  induction n with
  | zero =>
    intro xs hx
    rw [List.eq_nil_of_length_eq_zero hx]
    rfl
  | succ n ih =>
    intro xs hx
    rcases ends xs with rfl | ⟨a, x, rfl⟩
    · rfl
    · rw [merged_snoc, total_addTo, ih a (by simpa using hx), on_snoc, total_snoc]
theorem moved_on (f : Fm) (gs : List (Int × Int)) : moved f gs = on f.after gs := rfl
theorem on_on (h h' : Int → Int) (gs : List (Int × Int)) : on h' (on h gs) = on (fun j => h' (h j)) gs := by
  unfold on
  rw [List.map_map]
  rfl
theorem posI (x : Int) : 0 ≤ (if x > 0 then x else 0) ∧ ((if x > 0 then x else 0) = x ∨ ((if x > 0 then x else 0) = 0 ∧ x ≤ 0)) := by
  by_cases h : x > 0
  · rw [if_pos h]; omega
  · rw [if_neg h]; omega
theorem after_both (b a : Int) (g : Fm) (j : Int) : g.after ((Fm.keep b a).after j) = ((Fm.keep b a).both g).after j := by
  have e : ∀ b' a' : Int, (if (if j - b > 0 then j - b else 0) + a - b' > 0 then (if j - b > 0 then j - b else 0) + a - b' else 0) + a' =
      (if j - (b + (if b' - a > 0 then b' - a else 0)) > 0 then j - (b + (if b' - a > 0 then b' - a else 0)) else 0) + ((if a - b' > 0 then a - b' else 0) + a') := by
    intro b' a'
    have p1 := posI (j - b)
    have p2 := posI (b' - a)
    have p3 := posI (a - b')
    generalize (if j - b > 0 then j - b else 0) = A at *
    generalize (if b' - a > 0 then b' - a else 0) = B at *
    generalize (if a - b' > 0 then a - b' else 0) = C at *
    have p4 := posI (A + a - b')
    have p5 := posI (j - (b + B))
    generalize (if A + a - b' > 0 then A + a - b' else 0) = D at *
    generalize (if j - (b + B) > 0 then j - (b + B) else 0) = E at *
    omega
  cases g with
  | keep b' a' => exact e b' a'
  | lf b' a' k c => exact e b' a'
  | cr b' a' k => exact e b' a'
theorem units_both (r : List (Int × Int) × Int) (b a : Int) (g : Fm) : units (runAfter r (.keep b a)) g = units r ((Fm.keep b a).both g) := by
  show total (moved g (merged (moved (.keep b a) r.1))) + r.2 = total (moved _ r.1) + r.2
  rw [moved_on, total_on _ _ _ rfl, moved_on, on_on, moved_on]
  have e : (fun j => g.after ((Fm.keep b a).after j)) = ((Fm.keep b a).both g).after := funext fun j => after_both b a g j
  rw [e]
theorem units_one (n c : Int) (g : Fm) : units ([(n, c)], 0) g = n * (g.after c + 1) := by
  show total ([] ++ [(n, g.after c)]) + 0 = _
  rw [total_snoc]
  show 0 + n * (g.after c + 1) + 0 = _
  omega
theorem units_none (n : Int) (g : Fm) : units ([], n) g = n := by
  show (0 : Int) + n = n
  omega
theorem runAfter_both (r : List (Int × Int) × Int) (f g : Fm) : runAfter (runAfter r f) g = runAfter r (f.both g) := by
  cases f with
  | keep b a =>
    have hu := units_both r b a g
    cases g with
    | keep b' a' =>
      show (merged (moved (.keep b' a') (merged (moved (.keep b a) r.1))), r.2) = (merged (moved _ r.1), r.2)
      rw [moved_on, merged_on _ _ _ rfl, moved_on, on_on, moved_on]
      have e : (fun j => (Fm.keep b' a').after ((Fm.keep b a).after j)) = ((Fm.keep b a).both (.keep b' a')).after := funext fun j => after_both b a _ j
      rw [e]
      rfl
    | lf b' a' k' c' =>
      show (if k' * units (runAfter r (.keep b a)) (.lf b' a' k' c') = 0 then (([] : List (Int × Int)), (0 : Int)) else ([(k' * units (runAfter r (.keep b a)) (.lf b' a' k' c'), c')], 0)) = _
      rw [hu]
      rfl
    | cr b' a' k' =>
      show (([] : List (Int × Int)), k' * units (runAfter r (.keep b a)) (.cr b' a' k')) = _
      rw [hu]
      rfl
  | lf b a k c =>
    by_cases z : k * units r (.lf b a k c) = 0
    · rw [show runAfter r (.lf b a k c) = ([], 0) from if_pos z]
      cases g with
      | keep b' a' =>
        show (([] : List (Int × Int)), (0 : Int)) = if k * units r (.lf b a k c) = 0 then ([], 0) else _
        rw [if_pos z]
      | lf b' a' k' c' =>
        have e : k * ((Fm.lf b' a' k' c').after c + 1) * k' * units r (.lf b a k c) = 0 := by
          rw [show k * ((Fm.lf b' a' k' c').after c + 1) * k' * units r (.lf b a k c) = ((Fm.lf b' a' k' c').after c + 1) * k' * (k * units r (.lf b a k c)) by
            simp only [Int.mul_assoc, Int.mul_comm, Int.mul_left_comm], z, Int.mul_zero]
        show (if k' * units ([], 0) (.lf b' a' k' c') = 0 then (([] : List (Int × Int)), (0 : Int)) else _) = if k * ((Fm.lf b' a' k' c').after c + 1) * k' * units r (.lf b a k c) = 0 then ([], 0) else _
        rw [units_none, Int.mul_zero, if_pos rfl, if_pos e]
      | cr b' a' k' =>
        have e : k * ((Fm.cr b' a' k').after c + 1) * k' * units r (.lf b a k c) = 0 := by
          rw [show k * ((Fm.cr b' a' k').after c + 1) * k' * units r (.lf b a k c) = ((Fm.cr b' a' k').after c + 1) * k' * (k * units r (.lf b a k c)) by
            simp only [Int.mul_assoc, Int.mul_comm, Int.mul_left_comm], z, Int.mul_zero]
        show (([] : List (Int × Int)), k' * units ([], 0) (.cr b' a' k')) = ([], k * ((Fm.cr b' a' k').after c + 1) * k' * units r (.lf b a k c))
        rw [units_none, Int.mul_zero, e]
    · rw [show runAfter r (.lf b a k c) = ([(k * units r (.lf b a k c), c)], 0) from if_neg z]
      cases g with
      | keep b' a' =>
        show (merged [(k * units r (.lf b a k c), (Fm.keep b' a').after c)], (0 : Int)) = if k * units r (.lf b a k c) = 0 then ([], 0) else ([(k * units r (.lf b a k c), (Fm.keep b' a').after c)], 0)
        rw [if_neg z]
        rfl
      | lf b' a' k' c' =>
        show (if k' * units ([(k * units r (.lf b a k c), c)], 0) (.lf b' a' k' c') = 0 then (([] : List (Int × Int)), (0 : Int)) else ([(k' * units ([(k * units r (.lf b a k c), c)], 0) (.lf b' a' k' c'), c')], 0)) =
          if k * ((Fm.lf b' a' k' c').after c + 1) * k' * units r (.lf b a k c) = 0 then ([], 0) else ([(k * ((Fm.lf b' a' k' c').after c + 1) * k' * units r (.lf b a k c), c')], 0)
        rw [units_one, show k' * (k * units r (.lf b a k c) * ((Fm.lf b' a' k' c').after c + 1)) = k * ((Fm.lf b' a' k' c').after c + 1) * k' * units r (.lf b a k c) by
          simp only [Int.mul_assoc, Int.mul_comm, Int.mul_left_comm]]
      | cr b' a' k' =>
        show (([] : List (Int × Int)), k' * units ([(k * units r (.lf b a k c), c)], 0) (.cr b' a' k')) = ([], k * ((Fm.cr b' a' k').after c + 1) * k' * units r (.lf b a k c))
        rw [units_one, show k' * (k * units r (.lf b a k c) * ((Fm.cr b' a' k').after c + 1)) = k * ((Fm.cr b' a' k').after c + 1) * k' * units r (.lf b a k c) by
          simp only [Int.mul_assoc, Int.mul_comm, Int.mul_left_comm]]
  | cr b a k =>
    cases g with
    | keep b' a' => rfl
    | lf b' a' k' c' =>
      show (if k' * units ([], k * units r (.cr b a k)) (.lf b' a' k' c') = 0 then (([] : List (Int × Int)), (0 : Int)) else ([(k' * units ([], k * units r (.cr b a k)) (.lf b' a' k' c'), c')], 0)) =
        if k * 1 * k' * units r (.cr b a k) = 0 then ([], 0) else ([(k * 1 * k' * units r (.cr b a k), c')], 0)
      rw [units_none, Int.mul_one, show k' * (k * units r (.cr b a k)) = k * k' * units r (.cr b a k) by simp only [Int.mul_assoc, Int.mul_comm, Int.mul_left_comm]]
    | cr b' a' k' =>
      show (([] : List (Int × Int)), k' * units ([], k * units r (.cr b a k)) (.cr b' a' k')) = ([], k * 1 * k' * units r (.cr b a k))
      rw [units_none, Int.mul_one, show k' * (k * units r (.cr b a k)) = k * k' * units r (.cr b a k) by simp only [Int.mul_assoc, Int.mul_comm, Int.mul_left_comm]]
end Lx
/-! promises of defs that are called where no repr is at work -/
namespace Lx
open PySem PySem.Spec L2
open PyProof.Rows (AllBare IntsAre)
/-- as FnOk, at callers in which no guarded call (a repr, a comparison) runs -/
structure FnG (P : Program) (w : World) (K : PySem.W.Frag) (mg : Str → Option Value) (base : Heap) (CX : CXT) (k : Nat) (f : Addr) (fd : FuncData) (ps : List Str) (sp : Sp) : Prop where
  len : ∀ vs H Q E, sp vs H Q E → vs.length = ps.length
  go : ∀ (A : Around) (outer : List Env) (s : Shared) (H : Hp) (args : Args) (us : List Value) (vs : List V) (Q : VK) (E : XK), Room k A → A.guards = some [] → Env0 P w K mg base A outer s H → BindsTo s fd args (ps.zip us) → Vals vs us → sp vs H Q E →
    codeAny (model P w) A (.call (.ref f) args) (CR CX outer P w H s Q E) s
section
variable {P : Program} {w : World} {K : PySem.W.Frag} {mg : Str → Option Value} {base : Heap} {CX : CXT}
theorem FnG.of {k : Nat} {f : Addr} {fd : FuncData} {ps : List Str} {sp : Sp} (F : FnOk P w K mg base CX k f fd ps sp) : FnG P w K mg base CX k f fd ps sp :=
  ⟨F.len, fun A outer s H args us vs Q E hr _ he hb hv hs => F.run A outer s H args us vs Q E hr he hb hv hs⟩
/-- a def's promise by its body -/
theorem okG {x qual : Str} {st : Stmt} {f : Addr} {fd : FuncData} {N ps : List Str} {k : Nat} {sp : Sp} (F : Fun K x qual st f fd) (S : FnScope N ps (defScope st)) (len : ∀ vs H Q E, sp vs H Q E → vs.length = ps.length)
    (hb : ∀ (cdv : Value) (A : Around) (outer : List Env) (s : Shared) (H : Hp) (vs : List V) (Q : VK) (E : XK), Room k (A.deeper (PyProof.Rows.envOfC qual (defScope st) s.heap.objs.size f cdv)) → A.guards = some [] → sp vs H Q E →
      ∃ t, PSs (cxOf CX P w K mg base N qual (defScope st) f cdv A outer s H E) (defBody st) t ∧ t { nx := fun _ H' => Q .non H', rt := Q } (start N vs) H) : FnG P w K mg base CX (k + 1) f fd ps sp := by
  obtain ⟨oc, od, kV, doc, pm, an, cdv, ct, osl, rfl, lk, hcd⟩ := F.ex
  refine ⟨len, fun A outer s H args us vs Q E hr hg e0 hbd r hsp => ?_⟩
  have X : K.In s.heap := e0.mod.kin.keeps fun b o e => (e0.bs b o e).1
  have lim : s.heap.NoLimit := e0.mod.nolimit.keeps fun b o e => (e0.bs b o e).1
  refine codeAny_call_function hr.depth (X _ _ lk) rfl S.co S.gen rfl (PySem.W.codeRec_of X hcd) (hbd _ _ _ _ ?_)
  refine wpAny_newFunctionEnv_cells S.kind (fun y hy => ?_) fun env he s1 x1 => ?_
  · obtain ⟨n, v⟩ := y
    rcases S.par n (List.of_mem_zip hy).1 with q | q
    · exact .inl q
    · exact .inr ⟨q, PySem.W.cellsFrom_some _ _ _ (.inl q)⟩
  · subst he
    refine ⟨lim.keeps x1.toInCall.keep, codeAny_func ?_⟩
    obtain ⟨t, ht, hq⟩ := hb cdv A outer s H vs Q E (hr.deeper _) hg hsp
    have I := inv_start (CX := CX) (E := E) S hr.hd e0 (len _ _ _ _ hsp) r x1
    refine wpAny_mono (ht.run [] s1 (start N vs) H _ I hq) (fun fl s2 z => ?_) fun _ _ z => z
    rcases fl with _ | _ | _ | u
    all_goals first
      | (obtain ⟨_, _, _, q⟩ := z; exact q.elim)
      | (obtain ⟨σ2, H2, J, q⟩ := z; exact ⟨V.non, H2, J.os, J.bare, J.base, J.hok, rfl, q⟩)
      | (obtain ⟨v2, σ2, H2, J, rv, q⟩ := z; exact ⟨v2, H2, J.os, J.bare, J.base, J.hok, rv, q⟩)
end
section
variable {X : Cx} {CX : CXT} {k : Nat} {f : Addr} {fd : FuncData} {ps : List Str} {sp : Sp} {dvs : List V} {ds : List Value} {E : XK} {x : Str} {p pos : Pos} {e : Expr} {es : List Expr} {t : TA}
/-- f(e, ..) -/
theorem pe_callG (F : FnG X.prog X.w X.K X.mg X.base CX k f fd ps sp) (hG : X.A.guards = some []) (hr : Room k X.A) (hg : Gl X x) (hm : X.mg x = some (.ref f)) (hk : PySem.W.keepIn X.K (.ref f) = true) (hb : Binds X.K fd ps ds) (hd : Vals dvs ds) (hx : Passes CX X E)
    (ha : PA X (e :: es) t) (hdb : (x == ("__debug__" : Str)) = false := by decide) (he : starEach (e :: es) X.env = (false, eval e X.env) :: starEach es X.env := by rfl) (hpl : (backTo pos (starEach es X.env)).any (·.1) = false := by rfl) :
    PE X (.Call (.Name x p) (e :: es) [] pos) (tCall sp dvs E t) := by
  refine ⟨fun pins s σ H Q I h => ?_⟩
  refine wpAny_Call_Name_kw (ld_glob I hg hm ?_ hdb)
  refine PySem.W.callWith_K (h₀ := X.base) I.ok.mod.kin hk (thn (ha.run pos pins s σ H _ I h) fun us s1 ⟨vs, H1, I1, r, q⟩ => ⟨I1.kIn, ?_⟩) he hpl
  have r2 : Vals (vs ++ dvs) (us ++ ds) := r.append hd
  have hl : (us ++ ds).length = ps.length := by rw [← r2.length]; exact F.len _ _ _ _ q
  show wpAny _ _ (call (.ref f) us) _ _ _
  refine wpAny_call (codeAny_mono (F.go X.A X.stack s1 H1 ⟨us, []⟩ (us ++ ds) (vs ++ dvs) Q E hr hG I1.env0 (hb s1 us I1.kIn hl) r2 q) fun res s' hq => ?_)
  rcases res with er | fl
  · exact hx pins σ H1 s1 er s' I1 hq
  · rcases fl with _ | _ | _ | u
    all_goals first
      | exact I1.after hq
      | exact False.elim hq
end
/-- the heap in which nothing but the script is told -/
def onlyAt (a : Addr) (o : Obj) (ns : List Int) : Hp := fun b => if b = a then some (.frz o (.lst (ns.map V.int))) else none
section
variable {P : Program} {w : World} {K : PySem.W.Frag} {mg mb : Str → Option Value} {CX : CXT} {k : Nat} {fa a : Addr} {fd : FuncData} {x : Str} {sp : Sp} {s : Shared} {vs : List Value} {ns : List Int}
/-- the law's call, from an abstract heap that tells of the script at most -/
theorem lawFrom (KX : K.In s.heap) (hns : s.heap.Ns mainGlobals mg) (hbl : s.heap.Ns builtinsNs mb) (hbb : ∀ x : Str, x ≠ "__name__" → mb x = bootBuiltins x) (hlim : s.heap.NoLimit) (hg : s.gens = #[]) {o : Obj} (ho : s.heap.get? a = some o) (hdict : ∀ es ep, o.data ≠ .dict es ep)
    (hr : Room k callerA) (F : ∀ base : Heap, K.In base → base.Ns mainGlobals mg → FnG P w K mg base CX k fa fd [x] sp) (hbind : ∀ (s : Shared) (u : Value), BindsTo s fd ⟨[u], []⟩ [(x, u)])
    (H : Hp) (hok : HOk P w H s.heap) (hA : ∀ b, H b ≠ none → b = a ∧ K.lookup a = none ∧ H a = some (.frz o (.lst (ns.map V.int)))) (hsp : sp [.ref a] H (fun v _ => v = .bl true) fun _ _ _ => False) (hCX : ∀ e s', CX [] H s (fun _ _ _ => False) e s' → False) :
    codeAny (model P w) callerA (.call (.ref fa) ⟨[.ref a], []⟩) (fun r s' => r = .ok (.ret (.bool true)) ∧ OldK s.heap s'.heap ∧ s'.os = s.os ∧ AllBare s'.gens) s := by
  have free : ∀ {b : Addr} {u : Obj}, s.heap.get? b = some u → (∃ es ep, u.data = .dict es ep) → H b = none := fun {b u} e ⟨es, ep, d⟩ => by
    cases q : H b with
    | none => rfl
    | some z =>
      obtain ⟨rfl, _, _⟩ := hA b (by rw [q]; simp)
      rw [ho] at e
      cases e
      exact (hdict es ep d).elim
  have nsK : ∀ {b : Addr} {m : Str → Option Value}, s.heap.Ns b m → (hidT s.heap H).Ns b m := fun {b m} ⟨u, es, ep, e, d, r⟩ => ⟨u, es, ep, hidT_get e (free e ⟨es, ep, d⟩), d, r⟩
  have kb : K.In (hidT s.heap H) := fun b u e => hidT_get (KX b u e) (by
    cases q : H b with
    | none => rfl
    | some z =>
      obtain ⟨rfl, q2, _⟩ := hA b (by rw [q]; simp)
      rw [q2] at e
      cases e)
  have hM : Mod K mg (hidT s.heap H) := ⟨kb, nsK hns, ⟨mb, nsK hbl, hbb⟩, let ⟨mc, h1, h2⟩ := hlim; ⟨mc, nsK h1, h2⟩⟩
  have e0 : Env0 P w K mg (hidT s.heap H) callerA [] s H := ⟨rfl, hM, fun b u e => of_hidT e, Nat.le_of_eq (hidT_size _ _), trivial, fun b hb => absurd (show b ∈ ([] : List Addr) from hb) (by simp), hok, .of_eq hg⟩
  refine codeAny_mono ((F _ kb (nsK hns)).go callerA [] s H ⟨[.ref a], []⟩ [.ref a] [.ref a] _ _ hr rfl e0 (hbind s (.ref a)) (.cons rfl .nil) hsp) fun r s' h => ?_
  rcases r with e | fl
  · exact (hCX e s' h).elim
  · rcases fl with _ | _ | _ | u
    all_goals first
      | exact False.elim h
      | skip
    obtain ⟨v, H', os, bare, un, hok', r', q⟩ := h
    obtain rfl : v = .bl true := q
    obtain rfl : u = Value.bool true := r'
    refine ⟨rfl, OldK.of_keep fun b u e => ?_, os, bare⟩
    cases q : H b with
    | none => exact un.keep b u e q (fun z => absurd (show b ∈ ([] : List Addr) from z) (by simp)) (by simp)
    | some z =>
      obtain ⟨rfl, _, q3⟩ := hA b (by rw [q]; simp)
      obtain ⟨e2, _⟩ := hok' b _ (un.frzs b o _ q3)
      rw [ho] at e
      cases e
      exact e2
theorem lawCall (KX : K.In s.heap) (hns : s.heap.Ns mainGlobals mg) (hbl : s.heap.Ns builtinsNs mb) (hbb : ∀ x : Str, x ≠ "__name__" → mb x = bootBuiltins x) (hlim : s.heap.NoLimit) (hg : s.gens = #[])
    (ha : s.heap.get? a = some { cls := .type "list", data := .seq vs.toArray }) (hi : IntsAre vs ns) (hl : ns.length ≤ sizeLine) (hr : Room k callerA)
    (F : ∀ base : Heap, K.In base → base.Ns mainGlobals mg → FnG P w K mg base CX k fa fd [x] sp) (hbind : ∀ (s : Shared) (u : Value), BindsTo s fd ⟨[u], []⟩ [(x, u)])
    (hsp : ∀ H : Hp, SqL K H a (ns.map V.int) → sp [.ref a] H (fun v _ => v = .bl true) fun _ _ _ => False) (hCX : ∀ H e s', CX [] H s (fun _ _ _ => False) e s' → False) :
    codeAny (model P w) callerA (.call (.ref fa) ⟨[.ref a], []⟩) (fun r s' => r = .ok (.ret (.bool true)) ∧ OldK s.heap s'.heap ∧ s'.os = s.os ∧ AllBare s'.gens) s := by
  have rv := vals_ints hi
  cases hk : K.lookup a with
  | some o =>
    have e := KX a o hk
    rw [ha] at e
    cases e
    refine lawFrom KX hns hbl hbb hlim hg ha (fun _ _ z => by cases z) hr F hbind (ns := ns) (fun _ => none) (fun b u z => by cases z) (fun b z => absurd rfl z) (hsp _ ?_) (hCX _)
    exact .inr ⟨_, vs.toArray, _, hk, rfl, rfl, rfl, by rw [List.size_toArray, hi.length]; exact hl, by simpa using rv⟩
  | none =>
    refine lawFrom KX hns hbl hbb hlim hg ha (fun _ _ z => by cases z) hr F hbind (ns := ns) (onlyAt a { cls := .type "list", data := .seq vs.toArray } ns) (fun b u z => ?_) (fun b z => ?_) (hsp _ (.inl (.inr ⟨_, if_pos rfl⟩))) (hCX _)
    · by_cases hb : b = a
      · have q := (if_pos hb).symm.trans z
        cases q
        subst hb
        exact ⟨ha, by rw [List.length_map]; exact hl, vs, _, rv, ha⟩
      · have q := (if_neg hb).symm.trans z
        cases q
    · by_cases hb : b = a
      · exact ⟨hb, hk, if_pos rfl⟩
      · exact absurd (if_neg hb) z
end
/-- the end of a law's row -/
theorem endG {l : PySem.W.OpenLaw} {n k : Nat} {q : Program} {loose : List Str} {XP : (Str → Option Value) → Heap → Prop} {YP : World → Heap → Prop} {d : DefRec} {K : Params → PySem.W.Frag} {CX : World → CXT} {sp : World → Sp} {x : Str}
    (hn : l.most = some n) (hn2 : n ≤ sizeLine) (hdf : d.params.defaults = []) (hr : Room k callerA) (hY : ∀ (w : World) (h : Heap), YP w h → (K w.params).In h)
    (F : ∀ (w : World) (mg : Str → Option Value) (fa : Addr) (h : Heap), (K w.params).In h → h.Ns mainGlobals mg → mg d.name = some (.ref fa) →
      ∃ fd : FuncData, (∀ (s : Shared) (u : Value), BindsTo s fd ⟨[u], []⟩ [(x, u)]) ∧ ∀ base : Heap, (K w.params).In base → base.Ns mainGlobals mg → FnG l.prog w (K w.params) mg base (CX w) k fa fd [x] (sp w))
    (hsp : ∀ (w : World) (H : Hp) (a : Addr) (ns : List Int), ns.length ≤ n → SqL (K w.params) H a (ns.map V.int) → sp w [.ref a] H (fun v _ => v = .bl true) fun _ _ _ => False)
    (hCX : ∀ (w : World) (H : Hp) (s : Shared) (e : Value) (s' : Shared), CX w [] H s (fun _ _ _ => False) e s' → False) : PySem.W.WalkO q loose XP YP l.row.toRowW d [] (fun f vs => PySem.call f vs) := by
  refine Att.attach_call hn hdf fun w s₀ s₁ mg mb fa o pm cd doc a vs ns G Y ho hd hcd hmg hobj hints hlen hg => ?_
  obtain ⟨fd, hb, hF⟩ := F w mg fa _ (hY w _ Y) G.T.g hmg
  exact lawCall (hY w _ Y) G.T.g G.T.b G.T.builtins G.T.nolimit hg hobj hints (Nat.le_trans hlen hn2) hr hF hb (fun H hS => hsp w H a ns hlen hS) fun H e s' => hCX w H s₁ e s'
end Lx
namespace Lx
open PySem PySem.Spec L2
/-! ### repr of data -/
structure Fit (d : PyData) : Prop where
  can : d.showable = true
  no : d.hasDict = false
  dep : d.depth ≤ 40
  len : d.shown.length ≤ sizeLine
/-- repr(x), x data -/
def rRepr (K : PySem.W.Frag) : List V → Hp → VK → Prop := fun xs H Q => ∃ x d, xs = [x] ∧ Dp K H x d ∧ Fit d ∧ Q (.str d.shown) H
theorem call_reprD {X : Cx} (hG : X.A.guards = some []) (hu : X.A.units + 64 < cLine) : CallR X (.builtin "repr") (rRepr X.K) := by
  intro pins s σ H xs us Q I r h
  obtain ⟨x, d, rfl, hd, F, q⟩ := h
  obtain ⟨u, rfl, r1⟩ := vals1 r
  obtain ⟨as, rd⟩ := Dp.reads I d x u hd r1
  have big : ∀ a : Addr, u = .ref a → wpAny (model X.prog X.w) X.A (call (.builtin "repr") [u]) (EP X pins σ Q) X.xe s := fun a e => by
    subst e
    exact repr_of_reads' rd F.can (PyData.noDict_hsm F.no) hG (by have := F.dep; omega) (fun _ _ e => e) (fun h' t tk kp => ⟨.str d.shown, H, I.kept (t' := tk) kp, ⟨t, rfl⟩, q⟩) F.len
  cases hd with
  | non =>
    cases r1
    exact P.repr_of_none ⟨.str _, H, I.tok _, ⟨_, rfl⟩, q⟩
  | bl b =>
    cases r1
    exact P.repr_of_bool ⟨.str _, H, I.tok _, ⟨_, rfl⟩, by cases b <;> exact q⟩
  | int i =>
    obtain ⟨t, rfl⟩ := r1
    exact P.repr_of_int (of_decide_eq_true F.can) ⟨.str _, H, I.tok _, ⟨_, rfl⟩, q⟩
  | str y =>
    obtain ⟨t, rfl⟩ := r1
    exact P.repr_of_str ⟨.str _, H, I.tok _, ⟨_, rfl⟩, q⟩ F.len
  | lst _ _ => exact big _ r1
  | tup _ _ => exact big _ r1
/-! ### which class is which -/
section
variable {K : PySem.W.Frag} {file : Str} {mg : Str → Option Value} {L C D : Addr} {nm qual nm2 qual2 : Str} {st st2 : Stmt}
theorem ErrC.some_ (T : ErrC K file mg L nm qual st C) : (PySem.W.clsIn K C).isSome = true := by
  obtain ⟨cd, e, _⟩ := T.chain
  rw [e]; rfl
theorem LineC.some_ (T : LineC K mg L) : (PySem.W.clsIn K L).isSome = true := by
  obtain ⟨n, q, N, bs, sn, sub, ab, col, dd, k0, k1, k2, k3, k5, hL⟩ := T.cls
  unfold PySem.W.clsIn
  rw [hL] <;> rfl
theorem kit_ref {b : Bool} (h1 : (PySem.W.clsIn K D).isSome = true) (h2 : PySem.W.typeIn K (.ref D) = some (.type "type")) (T : ErrC K file mg L nm qual st C) (h : (Value.ref C :: .ref L :: HandSPX.veTail).contains (.ref D) = b) : PySem.W.kitOne K (.ref C) (.ref D) = some b := by
  unfold PySem.W.kitOne
  by_cases e : C = D
  · subst e
    have z : (Value.ref C == Value.ref C) = true := by simp
    rw [if_pos z, ← h]
    simp
  · have z : ¬ (Value.ref C == Value.ref D) = true := by simpa using e
    rw [if_neg z]
    show (if ((PySem.W.clsIn K D).isSome && PySem.W.typeIn K (.ref D) == some (.type "type")) = true then PySem.W.subIn K (.ref C) (.ref D) else none) = some b
    rw [h1, h2, if_pos (by rfl)]
    exact (T.under _).trans (by rw [h])
theorem kit_err (T : ErrC K file mg L nm qual st C) (T2 : ErrC K file mg L nm2 qual2 st2 D) (hD : D ≠ L) : PySem.W.kitOne K (.ref C) (.ref D) = some (decide (C = D)) := by
  refine kit_ref T2.some_ T2.ty T ?_
  rw [List.contains_cons, List.contains_cons]
  have e1 : (Value.ref D == Value.ref L) = false := by simpa using hD
  have e2 : List.contains HandSPX.veTail (Value.ref D) = false := by rfl
  rw [e1, e2]
  by_cases e : C = D
  · subst e; simp
  · have z : (Value.ref D == Value.ref C) = false := by simpa using Ne.symm e
    rw [z, decide_eq_false e]; rfl
theorem kit_line (TL : LineC K mg L) (T : ErrC K file mg L nm qual st C) : PySem.W.kitOne K (.ref C) (.ref L) = some true := kit_ref TL.some_ TL.ty T (by simp)
theorem kit_ve (T : ErrC K file mg L nm qual st C) : PySem.W.kitOne K (.ref C) (.type "ValueError") = some true := by
  unfold PySem.W.kitOne
  rw [if_neg (by simp)]
  show (if PySem.W.kitMeta "ValueError" = true then PySem.W.subIn K (.ref C) (.type "ValueError") else none) = some true
  rw [if_pos (by decide +kernel)]
  exact (T.under _).trans (by rfl)
end
/-! ### data that repr can write -/
/-- ints below 2 ^ 400, texts of plain signs -/
def small : PyData → Bool
  | .none | .bool _ => true
  | .int i => decide (i.natAbs < 2 ^ 400)
  | .str x => x.cps.toList.all fun c => decide (c < 128)
  | .list xs | .tuple xs => smallAll xs
  | .dict _ => false
where smallAll : List PyData → Bool
  | [] => true
  | x :: xs => small x && smallAll xs
theorem int_log {i : Int} (h : i.natAbs < 2 ^ 400) : i.natAbs.log2 < 400 := PySem.Flt.log2_lt_of (by decide) h
theorem int_shown {i : Int} (h : i.natAbs < 2 ^ 400) : (PyData.shown (.int i)).length ≤ 401 := by
  have e := int_text_length_le (k := 400) (by decide) (int_log h)
  show (Str.ofString (toString i)).length ≤ 401
  rw [ofString_length]
  omega
mutual
theorem small_can : ∀ d : PyData, small d = true → d.showable = true
  | .none, _ => rfl
  | .bool _, _ => rfl
  | .int i, h => by
    have e := int_log (of_decide_eq_true (show decide (i.natAbs < 2 ^ 400) = true by simpa only [small] using h))
    simp only [PyData.showable]
    exact decide_eq_true (by omega)
  | .str _, _ => rfl
  | .list xs, h => by
    simp only [PyData.showable]
    exact small_canAll xs (by simpa only [small] using h)
  | .tuple xs, h => by
    simp only [PyData.showable]
    exact small_canAll xs (by simpa only [small] using h)
  | .dict _, h => by simp [small] at h
theorem small_canAll : ∀ xs : List PyData, small.smallAll xs = true → PyData.showableAll xs = true
  | [], _ => rfl
  | x :: xs, h => by
    have h' : small x = true ∧ small.smallAll xs = true := by simpa only [small.smallAll, Bool.and_eq_true] using h
    simp only [PyData.showableAll, Bool.and_eq_true]
    exact ⟨small_can x h'.1, small_canAll xs h'.2⟩
end
mutual
theorem small_no : ∀ d : PyData, small d = true → d.hasDict = false
  | .none, _ => rfl
  | .bool _, _ => rfl
  | .int i, h => rfl
  | .str _, _ => rfl
  | .list xs, h => by
    simp only [PyData.hasDict]
    exact small_noAll xs (by simpa only [small] using h)
  | .tuple xs, h => by
    simp only [PyData.hasDict]
    exact small_noAll xs (by simpa only [small] using h)
  | .dict _, h => by simp [small] at h
theorem small_noAll : ∀ xs : List PyData, small.smallAll xs = true → PyData.hasDictAll xs = false
  | [], _ => rfl
  | x :: xs, h => by
    have h' : small x = true ∧ small.smallAll xs = true := by simpa only [small.smallAll, Bool.and_eq_true] using h
    simp only [PyData.hasDictAll, Bool.or_eq_false_iff]
    exact ⟨small_no x h'.1, small_noAll xs h'.2⟩
end
mutual
theorem small_leaves : ∀ d : PyData, small d = true → d.leavesShort 401 = true
  | .none, _ => rfl
  | .bool _, _ => rfl
  | .int i, h => by
    have e := int_shown (of_decide_eq_true (show decide (i.natAbs < 2 ^ 400) = true by simpa only [small] using h))
    simp only [PyData.leavesShort]
    exact decide_eq_true e
  | .str x, h => by
    simp only [PyData.leavesShort, List.all_eq_true, decide_eq_true_eq]
    simp only [small, List.all_eq_true, decide_eq_true_eq] at h
    intro c hc
    exact Nat.lt_of_lt_of_le (h c hc) (by decide)
  | .list xs, h => by
    simp only [PyData.leavesShort]
    exact small_leavesAll xs (by simpa only [small] using h)
  | .tuple xs, h => by
    simp only [PyData.leavesShort]
    exact small_leavesAll xs (by simpa only [small] using h)
  | .dict _, h => by simp [small] at h
theorem small_leavesAll : ∀ xs : List PyData, small.smallAll xs = true → PyData.leavesShortAll 401 xs = true
  | [], _ => rfl
  | x :: xs, h => by
    have h' : small x = true ∧ small.smallAll xs = true := by simpa only [small.smallAll, Bool.and_eq_true] using h
    simp only [PyData.leavesShortAll, Bool.and_eq_true]
    exact ⟨small_leaves x h'.1, small_leavesAll xs h'.2⟩
end
theorem fit_small {d : PyData} (h : small d = true) (hd : d.depth ≤ 40) (hb : d.bulk ≤ 40000) : Fit d := by
  refine ⟨small_can d h, small_no d h, hd, ?_⟩
  have e := PyData.shown_le_bulk 401 (by decide) d (small_leaves d h)
  have e2 : (401 + 2) * d.bulk ≤ 403 * 40000 := Nat.mul_le_mul (by decide) hb
  rw [sizeLine_eq]
  omega
end Lx
namespace Lx
open PySem PySem.Spec L2 PyProof.Rows
/-! ### f(k = v, ..) of a def -/
section
variable {X : Cx} {CX : CXT} {k : Nat} {f : Addr} {fd : FuncData} {ps ks : List Str} {sp : Sp} {E : XK} {x : Str} {p pos : Pos} {kws : List Keyword} {tk : TA} {g : List Value → List Value → List Value} {gV : List V → List V → List V}
theorem pe_callK0 (F : FnOk X.prog X.w X.K X.mg X.base CX k f fd ps sp) (hr : Room k X.A) (hg : Gl X x) (hm : X.mg x = some (.ref f)) (hk : PySem.W.keepIn X.K (.ref f) = true) (hb : KBinds X.K fd ps ks g gV) (hx : Passes CX X E)
    (hkw : PK X kws tk) (hall : (backToKw pos (keywordEach kws X.env)).all (·.1.isSome) = true := by rfl) (hks : (backToKw pos (keywordEach kws X.env)).filterMap (·.1) = ks := by rfl)
    (hdb : (x == ("__debug__" : Str)) = false := by decide) (hpl : ((backTo pos (starEach [] X.env)).any (·.1) || (backToKw pos (keywordEach kws X.env)).any (·.1.isNone)) = false := by rfl) :
    PE X (.Call (.Name x p) [] kws pos) (tCallK sp gV E tNil tk) := by
  refine ⟨fun pins s σ H Q I h => ?_⟩
  refine wpAny_Call_Name_kw (ld_glob I hg hm ?_ hdb)
  refine PySem.W.callWith_KW0 (h₀ := X.base) I.ok.mod.kin hk hall ?_ hpl
  refine thn (hkw.run pos pins s σ H _ I h) fun ws s2 ⟨zs, H2, I2, rz, q2⟩ => ⟨I2.kIn, ?_⟩
  rw [hks]
  exact run_fnk (us := []) (vs := []) F hr hb hx I2 .nil rz q2
end
/-- two keywords, the second parameter's first -/
def g21 (α : Type) : List α → List α → List α
  | [], [a, b] => [b, a]
  | _, _ => []
def g1 (α : Type) : List α → List α → List α
  | [], [a] => [a]
  | _, _ => []
theorem kb21 {K : PySem.W.Frag} {x qual : Str} {st : Stmt} {f : Addr} {fd : FuncData} {p1 p2 : Str} (F : Fun K x qual st f fd)
    (h : ∀ (kV doc pm : Value) (an : Option Addr) (cdv ct a b : Value), bindArgs (PySem.W.fnOf x qual (defArgs st) (defBody st) (defScope st) .none kV doc pm an cdv ct) ⟨[], [(p2, a), (p1, b)]⟩ = pure [(p1, b), (p2, a)]) : KBinds K fd [p1, p2] [p2, p1] (g21 Value) (g21 V) := by
  obtain ⟨oc, od, kV, doc, pm, an, cdv, ct, osl, rfl, lk, hcd⟩ := F.ex
  refine ⟨fun s us ws _ hl => ?_, fun {vs us zs ws} r1 r2 => ?_⟩
  · match us, ws, hl with
    | [], [a, b], _ => exact .of_eq (h kV doc pm an cdv ct a b)
    | [], [], hl => exact absurd hl (by simp [g21])
    | [], [_], hl => exact absurd hl (by simp [g21])
    | [], _ :: _ :: _ :: _, hl => exact absurd hl (by simp [g21])
    | _ :: _, _, hl => exact absurd hl (by simp [g21])
  · cases r1 with
    | cons _ _ => exact .nil
    | nil =>
      cases r2 with
      | nil => exact .nil
      | cons a t =>
        cases t with
        | nil => exact .nil
        | cons b t =>
          cases t with
          | nil => exact .cons b (.cons a .nil)
          | cons _ _ => exact .nil
theorem kb1 {K : PySem.W.Frag} {x qual : Str} {st : Stmt} {f : Addr} {fd : FuncData} {p1 : Str} (F : Fun K x qual st f fd)
    (h : ∀ (kV doc pm : Value) (an : Option Addr) (cdv ct a : Value), bindArgs (PySem.W.fnOf x qual (defArgs st) (defBody st) (defScope st) .none kV doc pm an cdv ct) ⟨[], [(p1, a)]⟩ = pure [(p1, a)]) : KBinds K fd [p1] [p1] (g1 Value) (g1 V) := by
  obtain ⟨oc, od, kV, doc, pm, an, cdv, ct, osl, rfl, lk, hcd⟩ := F.ex
  refine ⟨fun s us ws _ hl => ?_, fun {vs us zs ws} r1 r2 => ?_⟩
  · match us, ws, hl with
    | [], [a], _ => exact .of_eq (h kV doc pm an cdv ct a)
    | [], [], hl => exact absurd hl (by simp [g1])
    | [], _ :: _ :: _, hl => exact absurd hl (by simp [g1])
    | _ :: _, _, hl => exact absurd hl (by simp [g1])
  · cases r1 with
    | cons _ _ => exact .nil
    | nil =>
      cases r2 with
      | nil => exact .nil
      | cons a t =>
        cases t with
        | nil => exact .cons a .nil
        | cons _ _ => exact .nil
end Lx
/-! texts repeated -/
namespace Lx
open PySem PySem.Spec L2
/-- the signs of a text, n times -/
def rep (x : Str) (n : Nat) : Str := ⟨((List.replicate n x.cps.toList).flatten).toArray⟩
theorem rep_list (x : Str) (n : Nat) : (rep x n).cps.toList = (List.replicate n x.cps.toList).flatten := rfl
theorem rep_len (x : Str) (n : Nat) : (rep x n).length = x.length * n := by
  show ((List.replicate n x.cps.toList).flatten).toArray.size = x.cps.size * n
  rw [List.size_toArray, List.length_flatten, List.map_replicate, List.sum_replicate_nat, Array.length_toList, Nat.mul_comm]
theorem rep_one (x : Str) : rep x 1 = x := by
  have e : (rep x 1).cps.toList = x.cps.toList := by simp [rep_list]
  exact Str.ext' (Array.toList_inj.mp e)
theorem rep_zero (x : Str) : rep x 0 = Str.empty := rfl
theorem fold_rep (a : Array Nat) : ∀ (n : Nat) (b : Array Nat), ((List.replicate n a).foldl (· ++ ·) b).toList = b.toList ++ (List.replicate n a.toList).flatten
  | 0, b => by simp
  | n + 1, b => by
    rw [List.replicate_succ, List.foldl_cons, fold_rep a n, List.replicate_succ, List.flatten_cons, Array.toList_append, List.append_assoc]
theorem rep_fold (x : Str) (n : Nat) : (⟨(List.replicate n x.cps).foldl (· ++ ·) #[]⟩ : Str) = rep x n := by
  have e : ((List.replicate n x.cps).foldl (· ++ ·) #[]).toList = (rep x n).cps.toList := by
    rw [fold_rep, rep_list]; rfl
  exact Str.ext' (Array.toList_inj.mp e)
theorem rep_empty (x : Str) (n : Nat) (h : x.length = 0) : rep x n = x := by
  have e : x.cps.toList = [] := List.eq_nil_of_length_eq_zero (by rw [Array.length_toList]; exact h)
  have e2 : (rep x n).cps.toList = x.cps.toList := by
    rw [rep_list, e]
    induction n with
    | zero => rfl
    | succ n ih => rw [List.replicate_succ, List.flatten_cons, ih]; rfl
  exact Str.ext' (Array.toList_inj.mp e2)
/-- text * k -/
def rRepS : R2 := fun x y H Q => ∃ (z : Str) (k : Int), x = .str z ∧ y = .int k ∧ 0 ≤ k ∧ k < 1000000000 ∧ z.length * k.toNat ≤ sizeLine ∧ Q (.str (rep z k.toNat)) H
theorem op_repS {X : Cx} : OpR X (binaryOp .Mult) rRepS := by
  intro pins s σ H x y v u Q I rx ry h
  obtain ⟨z, k, rfl, rfl, h0, h1, hz, q⟩ := h
  obtain ⟨t, rfl⟩ := rx
  obtain ⟨t', rfl⟩ := ry
  have hlong : PySem.Builtin.Str.tooLong (z.length * k.toNat) = false := by
    unfold PySem.Builtin.Str.tooLong
    exact decide_eq_false (by omega)
  refine P.mul_str (by rw [decide_eq_false (by omega), decide_eq_false (by omega)]; rfl) (fun hk _ => ?_) (fun _ _ => hlong) ?_
  · have e : (z.length : Int) * k ≤ 2 ^ 63 - 1 := by
      have e1 : (z.length : Int) * k = ((z.length * k.toNat : Nat) : Int) := by
        rw [Int.natCast_mul, Int.toNat_of_nonneg h0]
      have e2 : sizeLine ≤ 9223372036854775807 := by rw [sizeLine_eq]; decide
      rw [e1]
      omega
    have hkp : 0 < k := by omega
    have := Int.le_ediv_of_mul_le hkp e
    omega
  · by_cases hk : k < 1
    · rw [if_pos hk]
      have e : k.toNat = 0 := by omega
      rw [e, rep_zero] at q
      exact ⟨by decide, ⟨.str _, H, I.tok _, ⟨_, rfl⟩, q⟩⟩
    · rw [if_neg hk]
      by_cases h2 : (k == 1 || z.length == 0) = true
      · rw [if_pos h2]
        have e : rep z k.toNat = z := by
          rcases Bool.or_eq_true_iff.mp h2 with e | e
          · have e' : k.toNat = 1 := by have := beq_iff_eq.mp e; omega
            rw [e', rep_one]
          · exact rep_empty _ _ (beq_iff_eq.mp e)
        rw [e] at q
        exact ⟨.str _, H, I, ⟨_, rfl⟩, q⟩
      · rw [if_neg h2, rep_fold]
        exact ⟨by rw [rep_len]; exact hz, ⟨.str _, H, I.tok _, ⟨_, rfl⟩, q⟩⟩
end Lx
namespace Lw
open PySem PySem.Spec L2 Lx
theorem same_upd {H : Hp} {p : Addr} {o : HO} (h : H p = none) : Same H (upd H p o) := fun b x e => by
  rw [upd_ne (ne_of_none e h)]
  exact e
abbrev steps : Str := "UDMN"
def ChOk (x : Str) : Prop := ∀ c ∈ x.cps.toList, c ∈ steps.cps.toList
abbrev nothing : Fm := .keep 0 0
def stepF (c : Nat) : Fm := if c = 85 then .keep 0 1 else if c = 68 then .keep 1 0 else if c = 77 then .lf 0 0 1 0 else .cr 0 0 1
def formL (cs : List Nat) : Fm := cs.foldl (fun f c => f.both (stepF c)) nothing
def formOf (x : Str) : Fm := formL x.cps.toList
def FLe (L : Nat) : Fm → Prop
  | .keep b a => 0 ≤ b ∧ b ≤ L ∧ 0 ≤ a ∧ a ≤ L
  | .lf b a k c => 0 ≤ b ∧ b ≤ L ∧ 0 ≤ a ∧ a ≤ L ∧ 0 < k ∧ Sm (13 * L + 1) k ∧ 0 ≤ c ∧ c ≤ L
  | .cr b a k => 0 ≤ b ∧ b ≤ L ∧ 0 ≤ a ∧ a ≤ L ∧ 0 < k ∧ Sm (13 * L + 1) k
theorem sm_le {L : Nat} {x : Int} (h0 : 0 ≤ x) (h : x ≤ L) : Sm (13 * L + 1) x := by
  have h1 : L < 2 ^ L := Nat.lt_two_pow_self
  have h2 : 2 ^ L ≤ 2 ^ (13 * L + 1) := Nat.pow_le_pow_right (by decide) (by omega)
  unfold Sm
  omega
theorem FLe.ok {L : Nat} : ∀ {f : Fm}, FLe L f → f.Ok (13 * L + 1)
  | .keep _ _, ⟨h1, h2, h3, h4⟩ => ⟨h1, h3, sm_le h1 h2, sm_le h3 h4⟩
  | .lf _ _ _ _, ⟨h1, h2, h3, h4, h5, h6, h7, h8⟩ => ⟨h1, h3, h5, h7, sm_le h1 h2, sm_le h3 h4, h6, sm_le h7 h8⟩
  | .cr _ _ _, ⟨h1, h2, h3, h4, h5, h6⟩ => ⟨h1, h3, h5, sm_le h1 h2, sm_le h3 h4, h6⟩
theorem step_cases {c : Nat} (h : c ∈ steps.cps.toList) : stepF c = .keep 0 1 ∨ stepF c = .keep 1 0 ∨ stepF c = .lf 0 0 1 0 ∨ stepF c = .cr 0 0 1 := by
  unfold stepF
  split
  · exact .inl rfl
  · split
    · exact .inr (.inl rfl)
    · split
      · exact .inr (.inr (.inl rfl))
      · exact .inr (.inr (.inr rfl))
theorem sm_mul {L : Nat} {k x : Int} (hk : Sm (13 * L + 1) k) (h0 : 0 ≤ x) (h : x < 8192) : Sm (13 * (L + 1) + 1) (k * x * 1) := by
  have e : Sm 13 x := by
    unfold Sm
    have : (2 : Nat) ^ 13 = 8192 := by decide
    omega
  rw [Int.mul_one]
  exact (hk.mul e).mono (by omega)
theorem sm_up {L : Nat} {k : Int} (hk : Sm (13 * L + 1) k) : Sm (13 * (L + 1) + 1) k := hk.mono (by omega)
theorem pp (x : Int) : 0 ≤ (if x > 0 then x else 0) ∧ ((if x > 0 then x else 0) = x ∨ ((if x > 0 then x else 0) = 0 ∧ x ≤ 0)) := by
  by_cases h : x > 0
  · rw [if_pos h]; omega
  · rw [if_neg h]; omega
theorem FLe.step {L : Nat} (hL : L ≤ 7000) {c : Nat} (hc : c ∈ steps.cps.toList) {f : Fm} (h : FLe L f) : FLe (L + 1) (f.both (stepF c)) := by
  cases f with
  | keep b a =>
    obtain ⟨h1, h2, h3, h4⟩ := h
    have p1 := pp (0 - a)
    have p2 := pp (a - 0)
    have p3 := pp (1 - a)
    have p4 := pp (a - 1)
    have one : Sm (13 * (L + 1) + 1) 1 := sm_le (L := L + 1) (by decide) (by omega)
    rcases step_cases hc with e | e | e | e <;> rw [e] <;> simp only [Fm.both, Fm.ahead, Fm.b, Fm.a, FLe]
    · exact ⟨by omega, by omega, by omega, by omega⟩
    · exact ⟨by omega, by omega, by omega, by omega⟩
    · exact ⟨by omega, by omega, by omega, by omega, by decide, one, by decide, by omega⟩
    · exact ⟨by omega, by omega, by omega, by omega, by decide, one⟩
  | lf b a k d =>
    obtain ⟨h1, h2, h3, h4, h5, h6, h7, h8⟩ := h
    have p1 := pp (d - 0)
    have p2 := pp (d - 1)
    rcases step_cases hc with e | e | e | e <;> rw [e] <;> simp only [Fm.both, Fm.after, Fm.b, Fm.a, FLe]
    · exact ⟨h1, by omega, h3, by omega, h5, sm_up h6, by omega, by omega⟩
    · exact ⟨h1, by omega, h3, by omega, h5, sm_up h6, by omega, by omega⟩
    · refine ⟨h1, by omega, h3, by omega, ?_, sm_mul h6 (by omega) (by omega), by decide, by omega⟩
      rw [Int.mul_one]
      exact Int.mul_pos h5 (by omega)
    · refine ⟨h1, by omega, h3, by omega, ?_, sm_mul h6 (by omega) (by omega)⟩
      rw [Int.mul_one]
      exact Int.mul_pos h5 (by omega)
  | cr b a k =>
    obtain ⟨h1, h2, h3, h4, h5, h6⟩ := h
    rcases step_cases hc with e | e | e | e <;> rw [e] <;> simp only [Fm.both, FLe, Int.mul_one]
    · exact ⟨h1, by omega, h3, by omega, h5, sm_up h6⟩
    · exact ⟨h1, by omega, h3, by omega, h5, sm_up h6⟩
    · exact ⟨h1, by omega, h3, by omega, h5, sm_up h6, by decide, by omega⟩
    · exact ⟨h1, by omega, h3, by omega, h5, sm_up h6⟩
/-- the forms of the steps, and of no step -/
structure StepT (K : PySem.W.Frag) (w : World) (mg : Str → Option Value) (aN aS : Addr) : Prop where
  gN : mg "NOTHING" = some (.ref aN)
  n : ∀ H : Hp, FmAt K H (.ref aN) nothing
  gS : mg "STEP_FORMS" = some (.ref aS)
  s : ∀ c ∈ steps.cps.toList, ∃ v, KDct K w aS ⟨#[c]⟩ v ∧ ∀ H : Hp, FmAt K H v (stepF c)
theorem Same.own {H H' : Hp} {p : Addr} {o : HO} (s : Same H H') (n : H p = none) : Same H (upd H' p o) := fun b x e => by
  rw [upd_ne (ne_of_none e n)]
  exact s b x e
theorem SqT.lstUpd {K : PySem.W.Frag} {H : Hp} {a p : Addr} {xs ys : List V} {o : HO} (h : SqT K H a xs) (e : H p = some (.lst ys)) : SqT K (upd H p o) a xs := by
  have ne : ∀ o', H a = some o' → (∀ zs, o' ≠ .lst zs) → a ≠ p := fun o' h1 h2 z => by
    subst z
    rw [e] at h1
    exact h2 _ (Option.some.inj h1).symm
  rcases h with (h | ⟨q, h⟩) | h
  · exact .inl (.inl (by rw [upd_ne (ne _ h (fun zs z => by cases z))]; exact h))
  · exact .inl (.inr ⟨q, by rw [upd_ne (ne _ h (fun zs z => by cases z))]; exact h⟩)
  · exact .inr h
theorem Prs.lstUpd {K : PySem.W.Frag} {H : Hp} {p : Addr} {ys : List V} {o : HO} (e : H p = some (.lst ys)) : ∀ {vs : List V} {gs : List (Int × Int)}, Prs K H vs gs → Prs K (upd H p o) vs gs
  | _, _, .nil => .nil
  | _, _, .cons ⟨q, h1, h2⟩ t => .cons ⟨q, h1, by rw [upd_ne (ne_of h2 e (by intro z; cases z))]; exact h2⟩ (Prs.lstUpd e t)
theorem Prs.back {K : PySem.W.Frag} {H : Hp} : ∀ {vs : List V} {gs : List (Int × Int)} {x : Int × Int}, Prs K H vs (gs ++ [x]) → ∃ ws v, vs = ws ++ [v] ∧ Prs K H ws gs ∧ PrAt H v x
  | _, [], x, h => by
    cases h with
    | cons h1 t =>
      cases t
      exact ⟨[], _, rfl, .nil, h1⟩
  | _, g :: gs, x, h => by
    cases h with
    | cons h1 t =>
      obtain ⟨ws, v, rfl, a, b⟩ := Prs.back (gs := gs) t
      exact ⟨_ :: ws, v, rfl, .cons h1 a, b⟩
theorem snoc_or {α : Type} : ∀ l : List α, l = [] ∨ ∃ a x, l = a ++ [x]
  | [] => .inl rfl
  | x :: l => by
    rcases snoc_or l with rfl | ⟨a, y, rfl⟩
    · exact .inr ⟨[], x, rfl⟩
    · exact .inr ⟨x :: a, y, rfl⟩
theorem addTo_nil (x : Int × Int) : addTo [] x = [x] := rfl
theorem addTo_snoc (a : List (Int × Int)) (y x : Int × Int) : addTo (a ++ [y]) x = if y.2 = x.2 then a ++ [(y.1 + x.1, x.2)] else a ++ [y] ++ [x] := by
  unfold addTo
  rw [List.getLast?_concat]
  simp
theorem ixN_last {α : Type} (a : List α) (x : α) : ixN (a ++ [x]).length (-1) = some a.length := by
  unfold ixN
  simp
  omega
/-- numbers of groups that may be reckoned with -/
def RnSm (n : Nat) (r : List (Int × Int) × Int) : Prop := (∀ x ∈ r.1, 0 ≤ x.1 ∧ 0 ≤ x.2 ∧ Sm n x.1 ∧ Sm n x.2) ∧ 0 ≤ r.2 ∧ Sm n r.2 ∧ r.1.length ≤ 1000
theorem RnOk.sm {n : Nat} {r : List (Int × Int) × Int} (h : RnOk n r) : RnSm n r := ⟨fun x hx => by
  obtain ⟨i, hi⟩ := List.mem_iff_getElem?.mp hx
  obtain ⟨h1, h2, h3, h4, _⟩ := h.gs i x hi
  exact ⟨by omega, h2, h3, h4⟩, h.rest.1, h.rest.2, h.len⟩
theorem sum_mapV {gs : List (Int × Int)} {f : Fm} : ((gs.map fun x => x.1 * (f.after x.2 + 1))).sum = total (moved f gs) := by
  unfold total moved
  rw [List.map_map]
  rfl
theorem sum_sm {m : Nat} : ∀ (ts : List Int), (∀ t ∈ ts, 0 ≤ t ∧ Sm m t) → 0 ≤ ts.sum ∧ ts.sum ≤ ts.length * (2 ^ m : Nat)
  | [], _ => ⟨by decide, by simp⟩
  | t :: ts, h => by
    obtain ⟨h0, h1⟩ := h t (List.mem_cons_self ..)
    obtain ⟨i0, i1⟩ := sum_sm ts fun x hx => h x (List.mem_cons_of_mem _ hx)
    rw [List.sum_cons, List.length_cons]
    have e : ((ts.length + 1 : Nat) : Int) * (2 ^ m : Nat) = ts.length * (2 ^ m : Nat) + (2 ^ m : Nat) := by
      rw [Int.natCast_add, Int.add_mul]
      simp
    unfold Sm at h1
    rw [e]
    generalize ((ts.length : Nat) : Int) * (2 ^ m : Nat) = T at *
    generalize 2 ^ m = M at *
    omega
theorem units_ok {n : Nat} {r : List (Int × Int) × Int} {f : Fm} (h : RnSm n r) (hf : f.Ok n) : 0 ≤ units r f ∧ Sm (2 * n + 20) (units r f) := by
  have key : ∀ t ∈ (r.1.map fun x => x.1 * (f.after x.2 + 1)), 0 ≤ t ∧ Sm (2 * n + 4) t := by
    intro t ht
    obtain ⟨x, hx, rfl⟩ := List.mem_map.mp ht
    obtain ⟨x1, x2, x3, x4⟩ := h.1 x hx
    have hb := Fm.after_ok hf x2 x4
    have hb2 : Sm (n + 2) (f.after x.2 + 1) := hb.2.add (Nat.lt_of_lt_of_le (by decide : (1 : Int).natAbs < 2 ^ 1) (Nat.pow_le_pow_right (by decide) (by omega)))
    exact ⟨Int.mul_nonneg x1 (by have := hb.1; omega), (x3.mul hb2).mono (by omega)⟩
  obtain ⟨s0, s1⟩ := sum_sm _ key
  rw [sum_mapV] at s0 s1
  rw [List.length_map] at s1
  have hl := h.2.2.2
  have hr0 := h.2.1
  have hr1 : r.2.natAbs < 2 ^ n := h.2.2.1
  have e1 : (r.1.length : Int) * (2 ^ (2 * n + 4) : Nat) ≤ 1000 * (2 ^ (2 * n + 4) : Nat) := Int.mul_le_mul_of_nonneg_right (by omega) (Int.natCast_nonneg _)
  have e2 : 2 ^ (2 * n + 20) = 2 ^ (2 * n + 4) * 65536 := by rw [show 2 * n + 20 = (2 * n + 4) + 16 from rfl, Nat.pow_add]
  have e3 : 2 ^ n ≤ 2 ^ (2 * n + 4) := Nat.pow_le_pow_right (by decide) (by omega)
  unfold units Sm
  rw [e2]
  generalize total (moved f r.1) = T at *
  generalize (r.1.length : Int) * (2 ^ (2 * n + 4) : Nat) = U at *
  generalize 2 ^ (2 * n + 4) = M at *
  generalize 2 ^ n = N at *
  omega
/-- a run that has just been made -/
def NewRn (K : PySem.W.Frag) (H H' : Hp) (v : V) (r : List (Int × Int) × Int) : Prop :=
  ∃ p l xs, v = .ref p ∧ H p = none ∧ H l = none ∧ H' p = some (.tup [.ref l, .int r.2]) ∧ H' l = some (.lst xs) ∧ Prs K H' xs r.1
theorem RnSm.mono {n m : Nat} {r : List (Int × Int) × Int} (h : RnSm n r) (k : n ≤ m) : RnSm m r :=
  ⟨fun x hx => ⟨(h.1 x hx).1, (h.1 x hx).2.1, (h.1 x hx).2.2.1.mono k, (h.1 x hx).2.2.2.mono k⟩, h.2.1, h.2.2.1.mono k, h.2.2.2⟩
theorem NewRn.back {K : PySem.W.Frag} {H0 H H' : Hp} {v : V} {r : List (Int × Int) × Int} (s : Same H0 H) (h : NewRn K H H' v r) : NewRn K H0 H' v r := by
  obtain ⟨p, l, xs, h1, h2, h3, h4⟩ := h
  exact ⟨p, l, xs, h1, s.free h2, s.free h3, h4⟩
def CPowW (i j : Int) : Prop := 0 ≤ j ∧ j ≤ 64 ∧ i.natAbs < 2 ^ 200000
theorem op_powW {X : Cx} : OpR X (binaryOp .Pow) (rI CPowW fun i j => .int (i ^ j.toNat)) := opI fun i j _ _ _ _ _ hc q => by
  refine PyProof.Rows.pow_int hc.1 ?_ q
  have h1 := PySem.Flt.log2_lt_of (by decide : 0 < 200000) hc.2.2
  have h2 : Builtin.Int.intBits i ≤ i.natAbs.log2 + 1 := by
    unfold Builtin.Int.intBits
    split <;> omega
  have h3 : (Builtin.Int.intBits i : Int) ≤ 200000 := by omega
  have h4 := hc.2.1
  have h5 := hc.1
  have h6 : (Builtin.Int.intBits i : Int) * j ≤ 200000 * 64 := by
    refine Int.le_trans (Int.mul_le_mul_of_nonneg_right h3 h5) (Int.mul_le_mul_of_nonneg_left h4 (by decide))
  exact Int.le_trans h6 (by decide)
theorem fm {a b : Int} (hb : 0 < b) : 0 ≤ a.fmod b ∧ a.fmod b < b := by
  rw [Int.fmod_eq_emod_of_nonneg a (Int.le_of_lt hb)]
  exact ⟨Int.emod_nonneg a (by omega), Int.emod_lt_of_pos a hb⟩
theorem pow_sm {x : Int} (h0 : 0 ≤ x) (h : x < 2 ^ 200) {j : Int} (j0 : 0 ≤ j) (j1 : j ≤ 64) : CPowW x j := ⟨j0, j1, by
  have h1 : (x.natAbs : Int) < ((2 ^ 200 : Nat) : Int) := by
    rw [Int.natAbs_of_nonneg h0]
    exact h
  exact Nat.lt_of_lt_of_le (Int.ofNat_lt.mp h1) (Nat.pow_le_pow_right (by decide) (by decide))⟩
theorem cube_sm {x : Int} (h0 : 0 ≤ x) (h : x < 2147483648) : Sm 93 (x ^ Int.toNat 3) := by
  have e : x ^ Int.toNat 3 = x * x * x := by
    show x ^ 3 = _
    rw [Int.pow_succ, Int.pow_succ, Int.pow_succ, Int.pow_zero, Int.one_mul]
  have hx : Sm 31 x := by
    unfold Sm
    have : (2 : Nat) ^ 31 = 2147483648 := by decide
    omega
  rw [e]
  exact (hx.mul hx).mul hx
theorem p61 : (2 : Int) ^ Int.toNat 61 - 1 = 2305843009213693951 := by decide +kernel
theorem p61n : (2 : Int) ^ Int.toNat 61 - 1 ≠ 0 := by decide +kernel
theorem p61p : (0 : Int) < (2 : Int) ^ Int.toNat 61 - 1 := by decide +kernel
theorem p18n : (10 : Int) ^ Int.toNat 18 + 9 ≠ 0 := by decide +kernel
theorem while_fin {c : TT} {tb : TS} {D : Ends} {σ : St} {H : Hp} (Fin : St → Hp → Prop) (h : ∀ R : St → Hp → Prop, (∀ σ H, Fin σ H → R σ H) → tWhile c tb { D with nx := R } σ H) (hf : ∀ σ H, Fin σ H → D.nx σ H) : tWhile c tb D σ H := h D.nx hf
theorem dps {K : PySem.W.Frag} {H : Hp} : ∀ ds : List Int, DpAll K H (ds.map V.int) (ds.map PyData.int)
  | [] => .nil
  | d :: ds => .cons (.int d) (dps ds)
theorem shaped_ints (ds : List Int) : SeqAt.shaped (.list (ds.map .int)) = true := by
  have h1 : ∀ ds : List Int, PyData.canLayAll0 (ds.map .int) = true := fun ds => by
    induction ds with
    | nil => rfl
    | cons d ds ih => simp only [List.map_cons, PyData.canLayAll0, PyData.canLay0, ih, Bool.and_self]
  have h2 : ∀ ds : List Int, PyData.depthAll (ds.map .int) = 0 := fun ds => by
    induction ds with
    | nil => rfl
    | cons d ds ih => simp [PyData.depthAll, PyData.depth, ih]
  unfold SeqAt.shaped
  simp [PyData.canLay0, PyData.depth, h1, h2]
theorem p18 : (10 : Int) ^ Int.toNat 18 = 1000000000000000000 := by decide +kernel
def TT (K : PySem.W.Frag) (H : Hp) (a : Addr) : Prop := (∃ ys, H a = some (.tup ys)) ∨ ∃ o, K.lookup a = some o ∧ o.cls = .type "tuple"
mutual
inductive Dq (K : PySem.W.Frag) (H : Hp) : V → PyData → Prop
  | non : Dq K H .non .none
  | bl (b : Bool) : Dq K H (.bl b) (.bool b)
  | int (i : Int) : Dq K H (.int i) (.int i)
  | str (x : Str) : Dq K H (.str x) (.str x)
  | lst {a : Addr} {xs : List V} {ds : List PyData} : H a = some (.lst xs) → DqAll K H xs ds → Dq K H (.ref a) (.list ds)
  | tup {a : Addr} {xs : List V} {ds : List PyData} : TT K H a → SqT K H a xs → DqAll K H xs ds → Dq K H (.ref a) (.tuple ds)
inductive DqAll (K : PySem.W.Frag) (H : Hp) : List V → List PyData → Prop
  | nil : DqAll K H [] []
  | cons {v : V} {vs : List V} {d : PyData} {ds : List PyData} : Dq K H v d → DqAll K H vs ds → DqAll K H (v :: vs) (d :: ds)
end
theorem TT.ty {K : PySem.W.Frag} {H : Hp} {a : Addr} : TT K H a → TyX K H (.ref a) (.type "tuple")
  | .inl ⟨_, h⟩ => .base (.tup h)
  | .inr ⟨_, h, c⟩ => .kTuple h c
theorem TT.same {K : PySem.W.Frag} {H H' : Hp} {a : Addr} (s : Same H H') : TT K H a → TT K H' a
  | .inl ⟨ys, h⟩ => .inl ⟨ys, s _ _ h⟩
  | .inr h => .inr h
mutual
theorem Dq.same {K : PySem.W.Frag} {H H' : Hp} (s : Same H H') : ∀ {v : V} {d : PyData}, Dq K H v d → Dq K H' v d
  | _, _, .non => .non
  | _, _, .bl b => .bl b
  | _, _, .int i => .int i
  | _, _, .str x => .str x
  | _, _, .lst h t => .lst (s _ _ h) (DqAll.same s t)
  | _, _, .tup h1 h2 t => .tup (h1.same s) (sameT s h2) (DqAll.same s t)
theorem DqAll.same {K : PySem.W.Frag} {H H' : Hp} (s : Same H H') : ∀ {vs : List V} {ds : List PyData}, DqAll K H vs ds → DqAll K H' vs ds
  | _, _, .nil => .nil
  | _, _, .cons h t => .cons (Dq.same s h) (DqAll.same s t)
end
mutual
theorem Dq.dp {K : PySem.W.Frag} {H : Hp} : ∀ {v : V} {d : PyData}, Dq K H v d → Dp K H v d
  | _, _, .non => .non
  | _, _, .bl b => .bl b
  | _, _, .int i => .int i
  | _, _, .str x => .str x
  | _, _, .lst h t => .lst (.inl (.inl h)) (DqAll.dp t)
  | _, _, .tup _ h2 t => .tup h2 (DqAll.dp t)
theorem DqAll.dp {K : PySem.W.Frag} {H : Hp} : ∀ {vs : List V} {ds : List PyData}, DqAll K H vs ds → DpAll K H vs ds
  | _, _, .nil => .nil
  | _, _, .cons h t => .cons (Dq.dp h) (DqAll.dp t)
end
theorem DqAll.len {K : PySem.W.Frag} {H : Hp} : ∀ {vs : List V} {ds : List PyData}, DqAll K H vs ds → vs.length = ds.length
  | _, _, .nil => rfl
  | _, _, .cons _ t => by rw [List.length_cons, List.length_cons, DqAll.len t]
theorem DqAll.get {K : PySem.W.Frag} {H : Hp} : ∀ {vs : List V} {ds : List PyData}, DqAll K H vs ds → ∀ {i : Nat} {d : PyData}, ds[i]? = some d → ∃ v, vs[i]? = some v ∧ Dq K H v d
  | _, _, .nil, i, d, h => by simp at h
  | _, _, .cons h1 t, 0, d, h => by
    have e := Option.some.inj h
    subst e
    exact ⟨_, rfl, h1⟩
  | _, _, .cons h1 t, i + 1, d, h => DqAll.get t (i := i) h
mutual
def wd : PyData → Bool
  | .list xs | .tuple xs => decide (xs.length ≤ 5000) && wdAll xs
  | _ => true
def wdAll : List PyData → Bool
  | [] => true
  | x :: xs => wd x && wdAll xs
end
theorem wd_get : ∀ (xs : List PyData) (i : Nat) (x : PyData), wdAll xs = true → xs[i]? = some x → wd x = true
  | [], i, x, _, h => by simp at h
  | y :: ys, 0, x, h, e => by
    cases Option.some.inj e
    simp only [wdAll, Bool.and_eq_true] at h
    exact h.1
  | y :: ys, i + 1, x, h, e => by
    simp only [wdAll, Bool.and_eq_true] at h
    exact wd_get ys i x h.2 e
theorem depth_mem : ∀ (xs : List PyData) (i : Nat) (x : PyData), xs[i]? = some x → PyData.depth x ≤ PyData.depthAll xs := fun xs i x h => PyData.depth_le_depthAll xs x (List.mem_of_getElem? h)
def rIxA (K : PySem.W.Frag) : R2 := fun x y H Q => rIxL K x y H Q ∨ rIxT K x y H Q
theorem ix_any {X : Cx} {K : PySem.W.Frag} (h : X.K = K) : IxR X (rIxA K) := by
  subst h
  exact ix_list.or ix_tup
theorem ixA {K : PySem.W.Frag} {H H' : Hp} {a : Addr} {xs : List V} {j : Int} {i : Nat} {v : V} {Q : VK} (sm : Same H H') (h : SqL K H a xs ∨ SqT K H a xs) (e : j = i) (hv : xs[i]? = some v) (q : Q v H') : rIxA K (.ref a) (.int j) H' Q := by
  subst e
  rcases h with h | h
  · exact .inl ⟨a, xs, _, v, rfl, rfl, sm.seq h, atI_nat hv, q⟩
  · exact .inr ⟨a, xs, _, v, rfl, rfl, sameT sm h, atI_nat hv, q⟩
theorem ix_l {X : Cx} {K : PySem.W.Frag} (h : X.K = K) : IxR X (rIxL K) := by
  subst h
  exact ix_list
theorem far_sm {far : Int} (h0 : 4 ≤ far) (h : far < 2 ^ 97) : far.natAbs < 2 ^ 4000 := by
  have e : far.natAbs < 2 ^ 97 := by omega
  exact Nat.lt_of_lt_of_le e (Nat.pow_le_pow_right (by decide) (by decide))
def pd (gs : List (Int × Int)) : List PyData := gs.map fun x => .tuple [.int x.1, .int x.2]
theorem Prs.dp {K : PySem.W.Frag} {H : Hp} : ∀ {vs : List V} {gs : List (Int × Int)}, Prs K H vs gs → DpAll K H vs (pd gs)
  | _, _, .nil => .nil
  | _, _, .cons ⟨p, e, h⟩ t => by
    subst e
    exact .cons (.tup (.inl (.inl h)) (.cons (.int _) (.cons (.int _) .nil))) (Prs.dp t)
theorem pd_lay (gs : List (Int × Int)) : PyData.canLayAll0 (pd gs) = true := by
  unfold pd
  induction gs with
  | nil => rfl
  | cons g gs ih => simp only [List.map_cons, PyData.canLayAll0, PyData.canLay0, ih, Bool.and_self]
theorem pd_depth (gs : List (Int × Int)) : PyData.depthAll (pd gs) ≤ 1 := by
  unfold pd
  induction gs with
  | nil => simp [PyData.depthAll]
  | cons g gs ih =>
    simp only [List.map_cons, PyData.depthAll, PyData.depth]
    omega
theorem pd_shaped (gs : List (Int × Int)) : SeqAt.shaped (.list (pd gs)) = true := by
  have := pd_depth gs
  unfold SeqAt.shaped
  simp only [PyData.canLay0, pd_lay, PyData.depth, Bool.true_and]
  exact decide_eq_true (by omega)
theorem gsok_snoc {n : Nat} {gs : List (Int × Int)} {x : Int × Int} (h : GsOk n gs) (hl : ∀ a y, gs = a ++ [y] → y.2 ≠ x.2) (hx : 1 ≤ x.1 ∧ 0 ≤ x.2 ∧ Sm n x.1 ∧ Sm n x.2) : GsOk n (gs ++ [x]) := by
  intro i z hz
  by_cases hi : i < gs.length
  · rw [List.getElem?_append_left hi] at hz
    obtain ⟨h1, h2, h3, h4, h5⟩ := h i z hz
    refine ⟨h1, h2, h3, h4, fun y hy => ?_⟩
    by_cases hj : i + 1 < gs.length
    · rw [List.getElem?_append_left hj] at hy
      exact h5 y hy
    · have e : i + 1 = gs.length := by omega
      rw [e, List.getElem?_append_right (Nat.le_refl _), Nat.sub_self] at hy
      cases Option.some.inj hy
      rcases snoc_or gs with rfl | ⟨a, y', rfl⟩
      · simp at hi
      · have ea : i = a.length := by
          simp at e
          omega
        subst ea
        simp at hz
        subst hz
        exact Ne.symm (hl a y' rfl)
  · have hle : gs.length ≤ i := by omega
    rw [List.getElem?_append_right hle] at hz
    have e : i - gs.length = 0 := by
      have := (List.getElem?_eq_some_iff.mp hz).1
      simp at this
      omega
    rw [e] at hz
    cases Option.some.inj hz
    refine ⟨hx.1, hx.2.1, hx.2.2.1, hx.2.2.2, fun y hy => ?_⟩
    have := (List.getElem?_eq_some_iff.mp hy).1
    simp at this
    omega
def sameEnd (gs : List (Int × Int)) (j : Int) : Bool := match gs.getLast? with
  | some y => decide (y.2 = j)
  | none => false
theorem sameEnd_snoc (a : List (Int × Int)) (y : Int × Int) (j : Int) : sameEnd (a ++ [y]) j = decide (y.2 = j) := by
  unfold sameEnd
  rw [List.getLast?_concat]
theorem if_by {c : L2.TT} {A B : TS} {D : Ends} {σ : St} {H : Hp} (b : Bool) (R : Hp → Prop) (hc : ∀ K : Bool → Hp → Prop, (∀ H1, R H1 → K b H1) → c σ H K) (h : ∀ H1, R H1 → if b = true then A D σ H1 else B D σ H1) : tIfS c A B D σ H := hc _ h
theorem ix_t {X : Cx} {K : PySem.W.Frag} (h : X.K = K) : IxR X (rIxT K) := by
  subst h
  exact ix_tup
theorem gsok_front {n : Nat} {a : List (Int × Int)} {y : Int × Int} (h : GsOk n (a ++ [y])) : GsOk n a ∧ (∀ a' z, a = a' ++ [z] → z.2 ≠ y.2) ∧ 1 ≤ y.1 ∧ 0 ≤ y.2 := by
  refine ⟨fun i x hx => ?_, fun a' z e => ?_, ?_⟩
  · have hi := (List.getElem?_eq_some_iff.mp hx).1
    obtain ⟨h1, h2, h3, h4, h5⟩ := h i x (by rw [List.getElem?_append_left hi]; exact hx)
    refine ⟨h1, h2, h3, h4, fun w hw => ?_⟩
    have hi2 := (List.getElem?_eq_some_iff.mp hw).1
    exact h5 w (by rw [List.getElem?_append_left hi2]; exact hw)
  · subst e
    have := (h a'.length z (by simp)).2.2.2.2 y (by simp)
    exact fun q => this q.symm
  · have := h a.length y (by simp)
    exact ⟨this.1, this.2.1⟩
def MI (n t : Nat) (acc : List (Int × Int)) : Prop := GsOk (n + 11) acc ∧ (∀ x ∈ acc, x.1 ≤ (t : Int) * (2 ^ n : Nat)) ∧ acc.length ≤ t
theorem mi_sm {n t : Nat} {x : Int} (ht : t ≤ 1000) (h0 : 0 ≤ x) (h : x ≤ (t : Int) * (2 ^ n : Nat)) : Sm (n + 11) x := by
  have e : 2 ^ (n + 11) = 2 ^ n * 2048 := Nat.pow_add 2 n 11
  have e2 : (t : Int) * (2 ^ n : Nat) ≤ 1000 * (2 ^ n : Nat) := Int.mul_le_mul_of_nonneg_right (by omega) (Int.natCast_nonneg _)
  have e3 : 0 < 2 ^ n := Nat.two_pow_pos n
  unfold Sm
  rw [e]
  generalize (t : Int) * (2 ^ n : Nat) = T at *
  generalize 2 ^ n = M at *
  omega
theorem mi_step {n t : Nat} (ht : t < 1000) {acc : List (Int × Int)} {x : Int × Int} (h : MI n t acc) (x1 : 1 ≤ x.1) (x2 : Sm n x.1) (x3 : 0 ≤ x.2) (x4 : Sm (n + 1) x.2) : MI n (t + 1) (addTo acc x) := by
  obtain ⟨h1, h2, h3⟩ := h
  have hM : ((t + 1 : Nat) : Int) * (2 ^ n : Nat) = (t : Int) * (2 ^ n : Nat) + (2 ^ n : Nat) := by
    rw [Int.natCast_add, Int.add_mul]
    simp
  have hx : x.1 < (2 ^ n : Nat) := by
    unfold Sm at x2
    omega
  have ht0 : 0 ≤ (t : Int) * (2 ^ n : Nat) := Int.mul_nonneg (by omega) (Int.natCast_nonneg _)
  have up : ∀ y ∈ acc, y.1 ≤ ((t + 1 : Nat) : Int) * (2 ^ n : Nat) := fun y hy => by
    have := h2 y hy
    omega
  have xs : Sm (n + 11) x.1 := x2.mono (by omega)
  rcases snoc_or acc with rfl | ⟨a, y, rfl⟩
  · refine ⟨gsok_snoc (gs := []) (fun i z hz => by simp at hz) (fun a y e => by simp at e) ⟨x1, x3, xs, x4.mono (by omega)⟩, fun y hy => ?_, by show 1 ≤ t + 1; omega⟩
    have hy' : y = x := List.mem_singleton.mp hy
    rw [hy', hM]
    omega
  · rw [addTo_snoc]
    by_cases ey : y.2 = x.2
    · rw [if_pos ey]
      obtain ⟨g1, g2, g3, g4⟩ := gsok_front h1
      have hy1 := h2 y (by simp)
      have hs : y.1 + x.1 ≤ ((t + 1 : Nat) : Int) * (2 ^ n : Nat) := by omega
      refine ⟨gsok_snoc g1 (fun a' z e => by show z.2 ≠ x.2; rw [← ey]; exact g2 a' z e) ⟨by show 1 ≤ y.1 + x.1; omega, x3, mi_sm (t := t + 1) (by omega) (by show 0 ≤ y.1 + x.1; omega) hs, x4.mono (by omega)⟩, fun z hz => ?_, by simp only [List.length_append, List.length_cons, List.length_nil] at h3 ⊢; omega⟩
      rcases List.mem_append.mp hz with q | q
      · exact up z (List.mem_append.mpr (.inl q))
      · rw [List.mem_singleton.mp q]
        exact hs
    · rw [if_neg ey]
      refine ⟨gsok_snoc h1 (fun a' z e => by
        have := (List.append_inj' e rfl).2
        cases this
        exact ey) ⟨x1, x3, xs, x4.mono (by omega)⟩, fun z hz => ?_, by simp only [List.length_append, List.length_cons, List.length_nil] at h3 ⊢; omega⟩
      rcases List.mem_append.mp hz with q | q
      · exact up z q
      · rw [List.mem_singleton.mp q, hM]
        omega
theorem mi_fold {n : Nat} : ∀ (gs acc : List (Int × Int)) (t : Nat), t + gs.length ≤ 1000 → (∀ x ∈ gs, 1 ≤ x.1 ∧ Sm n x.1 ∧ 0 ≤ x.2 ∧ Sm (n + 1) x.2) → MI n t acc → MI n (t + gs.length) (gs.foldl addTo acc)
  | [], acc, t, _, _, h => h
  | g :: gs, acc, t, hl, hg, h => by
    have hl' : t + (gs.length + 1) ≤ 1000 := hl
    obtain ⟨g1, g2, g3, g4⟩ := hg g (List.mem_cons_self ..)
    have e := mi_fold gs (addTo acc g) (t + 1) (by omega) (fun x hx => hg x (List.mem_cons_of_mem _ hx)) (mi_step (by omega) h g1 g2 g3 g4)
    have e2 : t + 1 + gs.length = t + (g :: gs).length := by simp; omega
    rw [e2] at e
    exact e
theorem runAfter_ok {n : Nat} {r : List (Int × Int) × Int} {f : Fm} (h : RnOk n r) (hf : f.Ok n) : RnOk (3 * n + 40) (runAfter r f) := by
  have hu := units_ok (RnOk.sm h) hf
  cases f with
  | keep b a =>
    have m := mi_fold (n := n) (moved (.keep b a) r.1) [] 0 (by unfold moved; rw [List.length_map]; have := h.len; omega) (fun x hx => by
      obtain ⟨y, hy, rfl⟩ := List.mem_map.mp hx
      obtain ⟨i, hi⟩ := List.mem_iff_getElem?.mp hy
      obtain ⟨y1, y2, y3, y4, _⟩ := h.gs i y hi
      have := Fm.after_ok hf y2 y4
      exact ⟨y1, y3, this.1, this.2⟩) ⟨(fun i x hx => by simp at hx), (fun x hx => by cases hx), Nat.le_refl _⟩
    obtain ⟨m1, m2, m3⟩ := m
    refine ⟨fun i x hx => ?_, ⟨h.rest.1, h.rest.2.mono (by omega)⟩, ?_⟩
    · obtain ⟨q1, q2, q3, q4, q5⟩ := m1 i x hx
      exact ⟨q1, q2, q3.mono (by omega), q4.mono (by omega), q5⟩
    · have e : (moved (.keep b a) r.1).length = r.1.length := List.length_map ..
      have := h.len
      show (Lx.merged (moved (.keep b a) r.1)).length ≤ 1000
      unfold Lx.merged
      omega
  | lf b a k c =>
    by_cases z : k * units r (.lf b a k c) = 0
    · rw [show runAfter r (.lf b a k c) = ([], 0) from if_pos z]
      exact ⟨fun i x hx => by simp at hx, ⟨by decide, Nat.two_pow_pos _⟩, Nat.zero_le _⟩
    · rw [show runAfter r (.lf b a k c) = ([(k * units r (.lf b a k c), c)], 0) from if_neg z]
      have hp := Int.mul_nonneg (Int.le_of_lt hf.2.2.1) hu.1
      have hs := hf.2.2.2.2.2.2.1.mul hu.2
      exact ⟨gsok_snoc (gs := []) (fun i x hx => by simp at hx) (fun a y e => by simp at e) ⟨by show 1 ≤ k * units r (.lf b a k c); omega, hf.2.2.2.1, hs.mono (by omega), hf.2.2.2.2.2.2.2.mono (by omega)⟩, ⟨(by decide : (0 : Int) ≤ 0), Nat.two_pow_pos _⟩, by show 1 ≤ 1000; decide⟩
  | cr b a k =>
    have hs := hf.2.2.2.2.2.mul hu.2
    exact ⟨fun i x hx => by simp [runAfter] at hx, ⟨Int.mul_nonneg (Int.le_of_lt hf.2.2.1) hu.1, hs.mono (by omega)⟩, Nat.zero_le _⟩
theorem units_nothing {n : Nat} {r : List (Int × Int) × Int} (h : RnSm n r) : (r.1.map fun x => x.1 * (x.2 + 1)).sum + r.2 = units r nothing := by
  have e : moved nothing r.1 = r.1 := by
    unfold moved
    have : ∀ gs : List (Int × Int), (∀ x ∈ gs, 0 ≤ x.2) → gs.map (fun x => (x.1, nothing.after x.2)) = gs := by
      intro gs
      induction gs with
      | nil => intro _; rfl
      | cons g gs ih =>
        intro hg
        have h0 := hg g (List.mem_cons_self ..)
        have e0 : nothing.after g.2 = g.2 := by
          show (if g.2 - 0 > 0 then g.2 - 0 else 0) + 0 = g.2
          have := pp (g.2 - 0)
          omega
        rw [List.map_cons, ih fun x hx => hg x (List.mem_cons_of_mem _ hx), e0]
    exact this r.1 fun x hx => (h.1 x hx).2.1
  unfold units
  rw [e]
  rfl
def RnS (K : PySem.W.Frag) (H : Hp) (v : V) (l : Addr) (g : List (Int × Int) × Int) : Prop := ∃ p xs, v = .ref p ∧ H p = some (.tup [.ref l, .int g.2]) ∧ H l = some (.lst xs) ∧ Prs K H xs g.1
theorem NewRn.s {K : PySem.W.Frag} {H H' : Hp} {v : V} {g : List (Int × Int) × Int} : NewRn K H H' v g → ∃ l, H l = none ∧ RnS K H' v l g := fun ⟨p, l, xs, h1, h2, h3, h4, h5, h6⟩ => ⟨l, h3, p, xs, h1, h4, h5, h6⟩
theorem RnS.same {K : PySem.W.Frag} {H H' : Hp} {v : V} {l : Addr} {g : List (Int × Int) × Int} (s : Same H H') : RnS K H v l g → RnS K H' v l g := fun ⟨p, xs, h1, h2, h3, h4⟩ => ⟨p, xs, h1, s _ _ h2, s _ _ h3, h4.same s⟩
theorem RnS.rn {K : PySem.W.Frag} {H : Hp} {v : V} {l : Addr} {g : List (Int × Int) × Int} : RnS K H v l g → RnAt K H v l g := fun ⟨p, xs, h1, h2, h3, h4⟩ => ⟨p, h1, .inl (.inl h2), xs, .inl (.inl h3), h4⟩
theorem RnS.upd {K : PySem.W.Frag} {H : Hp} {v : V} {l l2 : Addr} {g : List (Int × Int) × Int} {ys : List V} {o : HO} (e : H l2 = some (.lst ys)) (ne : l ≠ l2) : RnS K H v l g → RnS K (upd H l2 o) v l g :=
  fun ⟨p, xs, h1, h2, h3, h4⟩ => ⟨p, xs, h1, by rw [upd_ne (ne_of h2 e (by intro z; cases z))]; exact h2, by rw [upd_ne ne]; exact h3, Prs.lstUpd e h4⟩
theorem RnS.ne {K : PySem.W.Frag} {H : Hp} {v : V} {l p : Addr} {g : List (Int × Int) × Int} (h : RnS K H v l g) (n : H p = none) : l ≠ p := by
  obtain ⟨_, _, _, _, h3, _⟩ := h
  exact ne_of_none h3 n
def rd (g : List (Int × Int) × Int) : PyData := .tuple [.list (pd g.1), .int g.2]
theorem Prs.dq {K : PySem.W.Frag} {H : Hp} : ∀ {vs : List V} {gs : List (Int × Int)}, Prs K H vs gs → DqAll K H vs (pd gs)
  | _, _, .nil => .nil
  | _, _, .cons ⟨p, e, h⟩ t => by
    subst e
    exact .cons (.tup (.inl ⟨_, h⟩) (.inl (.inl h)) (.cons (.int _) (.cons (.int _) .nil))) (Prs.dq t)
theorem RnS.dq {K : PySem.W.Frag} {H : Hp} {v : V} {l : Addr} {g : List (Int × Int) × Int} : RnS K H v l g → Dq K H v (rd g) := fun ⟨p, xs, h1, h2, h3, h4⟩ => by
  subst h1
  exact .tup (.inl ⟨_, h2⟩) (.inl (.inl h2)) (.cons (.lst h3 (Prs.dq h4)) (.cons (.int _) .nil))
def fdt : Fm → PyData
  | .keep b a => .tuple [.str "keep", .int b, .int a]
  | .lf b a k c => .tuple [.str "lf", .int b, .int a, .int k, .int c]
  | .cr b a k => .tuple [.str "cr", .int b, .int a, .int k]
theorem fm_dq {K : PySem.W.Frag} {H : Hp} {p : Addr} {f : Fm} (h : H p = some (.tup f.vs)) : Dq K H (.ref p) (fdt f) := by
  cases f with
  | keep b a => exact .tup (.inl ⟨_, h⟩) (.inl (.inl h)) (.cons (.str _) (.cons (.int _) (.cons (.int _) .nil)))
  | lf b a k c => exact .tup (.inl ⟨_, h⟩) (.inl (.inl h)) (.cons (.str _) (.cons (.int _) (.cons (.int _) (.cons (.int _) (.cons (.int _) .nil)))))
  | cr b a k => exact .tup (.inl ⟨_, h⟩) (.inl (.inl h)) (.cons (.str _) (.cons (.int _) (.cons (.int _) (.cons (.int _) .nil))))
theorem rd_shaped (g : List (Int × Int) × Int) : SeqAt.shaped (rd g) = true := by
  have := pd_depth g.1
  unfold SeqAt.shaped rd
  simp only [PyData.canLay0, PyData.canLayAll0, pd_lay, PyData.depth, PyData.depthAll, Bool.true_and, Bool.and_true]
  exact decide_eq_true (by omega)
theorem pd_wd (gs : List (Int × Int)) : wdAll (pd gs) = true := by
  unfold pd
  induction gs with
  | nil => rfl
  | cons g gs ih => simp only [List.map_cons, wdAll, wd, ih, Bool.and_true, List.length_cons, List.length_nil, Bool.and_self, decide_true]; exact decide_eq_true (by omega)
theorem rd_wd {g : List (Int × Int) × Int} (h : g.1.length ≤ 1000) : wd (rd g) = true := by
  have e : (pd g.1).length = g.1.length := List.length_map ..
  unfold rd
  simp only [wd, wdAll, pd_wd, List.length_cons, List.length_nil, Bool.and_true]
  rw [decide_eq_true (by omega : (pd g.1).length ≤ 5000)]
  simp
theorem rd_depth (g : List (Int × Int) × Int) : (rd g).depth ≤ 3 := by
  have := pd_depth g.1
  unfold rd
  simp only [PyData.depth, PyData.depthAll]
  omega
def shw (g : List (Int × Int) × Int) (f : Fm) : PyData := .list [rd g, fdt f]
theorem sm400 {x : Int} (h : Sm 100 x) : x.natAbs < 2 ^ 400 := Nat.lt_of_lt_of_le h (Nat.pow_le_pow_right (by decide) (by decide))
theorem pd_small : ∀ (gs : List (Int × Int)), (∀ x ∈ gs, Sm 100 x.1 ∧ Sm 100 x.2) → small.smallAll (pd gs) = true
  | [], _ => rfl
  | g :: gs, h => by
    have h1 := h g (List.mem_cons_self ..)
    have ih := pd_small gs fun x hx => h x (List.mem_cons_of_mem _ hx)
    unfold pd at ih ⊢
    simp only [List.map_cons, small.smallAll, small, ih, Bool.and_true]
    rw [decide_eq_true (sm400 h1.1), decide_eq_true (sm400 h1.2)]
    rfl
theorem pd_bulk (gs : List (Int × Int)) : PyData.bulkAll (pd gs) ≤ 20 * gs.length := by
  unfold pd
  induction gs with
  | nil => exact Nat.le_refl _
  | cons g gs ih =>
    simp only [List.map_cons, PyData.bulkAll, PyData.bulk, List.length_cons]
    omega
theorem fdt_small {f : Fm} (h : f.Ok 100) : small (fdt f) = true := by
  cases f with
  | keep b a =>
    obtain ⟨_, _, h1, h2⟩ := h
    simp only [fdt, small, small.smallAll]
    rw [decide_eq_true (sm400 h1), decide_eq_true (sm400 h2)]
    decide
  | lf b a k c =>
    obtain ⟨_, _, _, _, h1, h2, h3, h4⟩ := h
    simp only [fdt, small, small.smallAll]
    rw [decide_eq_true (sm400 h1), decide_eq_true (sm400 h2), decide_eq_true (sm400 h3), decide_eq_true (sm400 h4)]
    decide
  | cr b a k =>
    obtain ⟨_, _, _, h1, h2, h3⟩ := h
    simp only [fdt, small, small.smallAll]
    rw [decide_eq_true (sm400 h1), decide_eq_true (sm400 h2), decide_eq_true (sm400 h3)]
    decide
theorem shw_fit {g : List (Int × Int) × Int} {f : Fm} (h : RnOk 100 g) (hf : f.Ok 100) : Fit (shw g f) := by
  refine fit_small ?_ ?_ ?_
  · have e1 := pd_small g.1 fun x hx => by
      obtain ⟨i, hi⟩ := List.mem_iff_getElem?.mp hx
      exact ⟨(h.gs i x hi).2.2.1, (h.gs i x hi).2.2.2.1⟩
    unfold shw rd
    simp only [small, small.smallAll, e1, fdt_small hf, Bool.and_true, Bool.true_and]
    exact decide_eq_true (sm400 h.rest.2)
  · have e := rd_depth g
    have e2 : (fdt f).depth ≤ 1 := by cases f <;> simp [fdt, PyData.depth, PyData.depthAll]
    unfold shw
    simp only [PyData.depth, PyData.depthAll]
    omega
  · have e := pd_bulk g.1
    have e2 : (fdt f).bulk ≤ 200 := by cases f <;> (simp [fdt, PyData.bulk, PyData.bulkAll]; decide)
    have e3 := h.len
    unfold shw rd
    simp only [PyData.bulk, PyData.bulkAll]
    omega
/-- a def that is called by its name -/
structure Cl (P : Program) (w : World) (K : PySem.W.Frag) (mg : Str → Option Value) (base : Heap) (k : Nat) (nm : Str) (ps : List Str) (sp : Sp) (f : Addr) (fd : FuncData) : Prop where
  G : FnOk P w K mg base CX0 k f fd ps sp
  kp : PySem.W.keepIn K (.ref f) = true
  b : Binds K fd ps []
  g : mg nm = some (.ref f)
theorem upd_keep {H : Hp} {t l b : Addr} {o1 o2 o : HO} (nt : H t = none) (ne : b ≠ l) (h : H b = some o) : upd (upd H t o1) l o2 b = some o := by
  rw [upd_ne ne, upd_ne (ne_of_none h nt)]
  exact h
end Lw
namespace Lw
open PySem PySem.Spec L2 Lx
theorem scChkChain : FnScope ["chain", "index", "letter"] ["chain"] (defScope sChkChain) := ⟨rfl, rfl, rfl, by decide +kernel, rfl, by decide +kernel, by decide +kernel⟩
def spChkChain : Sp := fun vs H Q _ => ∃ x, vs = [.str x] ∧ ChOk x ∧ ∀ H', Same H H' → Q .non H'
section
variable {P : Program} {w : World} {K : PySem.W.Frag} {mg : Str → Option Value} {base : Heap}
theorem ok_chkChain {f : Addr} {fd : FuncData} {k : Nat} {tS : Tok} (F : Fun K "check_chain" "check_chain" sChkChain f fd) (mE : mg "enumerate" = none) (gS : mg "STEPS" = some (.str steps tS)) : FnOk P w K mg base CX0 (k + 1) f fd ["chain"] spChkChain := by
  refine F.ok scChkChain (fun vs H Q E h => ?_) (fun cdv A outer s H vs Q E hr h => ?_)
  · obtain ⟨x, rfl, _⟩ := h
    rfl
  · obtain ⟨x, rfl, hx, q⟩ := h
    refine ⟨_, pss_one (ps_for PassesOwn.never rfl (pi_enumS rfl mE (pa_cons (pv 0) pa_nil)) (pg_tup (by rfl) (pgs_cons (pg_name (i := 1) scChkChain.nd rfl (.inl rfl)) (pgs_cons (pg_name (i := 2) scChkChain.nd rfl (.inl rfl)) pgs_nil)))
        (pss_one (ps_if (pt_cmpR op_notIn_sign (pv 2) (pe_glob (v := .str steps) rfl gS ⟨_, rfl⟩) rfl) (pss_one ps_never) pss_nil))), ?_⟩
    refine ⟨_, rfl, x, rfl, ?_⟩
    refine for_it walk_enumS (fun i σ H' => Same H H' ∧ ∃ y1 y2, σ = [some (.str x), y1, y2]) ⟨Same.refl H, none, none, rfl⟩ (fun _ _ _ _ _ => trivial) ?_ ?_
    · rintro i v σ H1 H2 hi ⟨sm, y1, y2, rfl⟩ ⟨T, u1, u2, rfl, nT, rfl, h1, h2⟩
      cases Option.some.inj h1
      replace h2 : (x.cps[i]?).map (fun c => V.str ⟨#[c]⟩) = some u2 := h2
      cases e : x.cps[i]? with
      | none => rw [e] at h2; cases h2
      | some c =>
        rw [e] at h2
        cases Option.some.inj h2
        have hc : c ∈ steps.cps.toList := hx c (by rw [Array.mem_toList_iff]; exact Array.mem_of_getElem? e)
        have s2 := sm.trans (same_upd (o := .tup [.int (i : Nat), .str ⟨#[c]⟩]) nT)
        refine ⟨T, _, rfl, .inl (.inl upd_same), rfl, _, _, rfl, _, _, rfl, rfl, ?_⟩
        refine ⟨_, rfl, c, steps, rfl, rfl, _, rfl, ?_⟩
        rw [decide_eq_true hc]
        exact iteF ⟨s2, _, _, rfl⟩
    · rintro σ H1 ⟨sm, y1, y2, rfl⟩
      exact q _ sm
end
theorem scChkRun : FnScope ["run", "groups", "rest", "before", "index", "many", "j"] ["run"] (defScope sChkRun) := ⟨rfl, rfl, rfl, by decide +kernel, rfl, by decide +kernel, by decide +kernel⟩
def spChkRun (K : PySem.W.Frag) : Sp := fun vs H Q _ => ∃ x l r n, vs = [x] ∧ RnAt K H x l r ∧ RnOk n r ∧ ∀ H', Same H H' → Q .non H'
section
variable {P : Program} {w : World} {K : PySem.W.Frag} {mg : Str → Option Value} {base : Heap}
theorem ok_chkRun {f : Addr} {fd : FuncData} {k : Nat} (F : Fun K "check_run" "check_run" sChkRun f fd) (mE : mg "enumerate" = none) : FnOk P w K mg base CX0 (k + 1) f fd ["run"] (spChkRun K) := by
  refine F.ok scChkRun (fun vs H Q E h => ?_) (fun cdv A outer s H vs Q E hr h => ?_)
  · obtain ⟨x, l, r, n, rfl, _⟩ := h
    rfl
  · obtain ⟨_, l, r, n, rfl, ⟨p, rfl, hT, xs, hL, hP⟩, ho, q⟩ := h
    refine ⟨_, pss_cons (ps_asg (pv 0) (pg_tup (by rfl) (pgs_cons (pg_name (i := 1) scChkRun.nd rfl (.inl rfl)) (pgs_cons (pg_name (i := 2) scChkRun.nd rfl (.inl rfl)) pgs_nil))))
      (pss_cons (ps_set (i := 3) scChkRun.nd rfl (.inl rfl) pe_non)
      (pss_cons (ps_for PassesOwn.never rfl (pi_enum rfl mE (pa_cons (pv 1) pa_nil)) (pg_tup (by rfl) (pgs_cons (pg_name (i := 4) scChkRun.nd rfl (.inl rfl)) (pgs_cons (pg_tup (by rfl) (pgs_cons (pg_name (i := 5) scChkRun.nd rfl (.inl rfl)) (pgs_cons (pg_name (i := 6) scChkRun.nd rfl (.inl rfl)) pgs_nil))) pgs_nil)))
        (pss_cons (ps_if (PW.pt (pw_or (pt_cmpR op_lt (pv 5) pe_int (nomark _)) (pw_or (pt_cmpR op_lt (pv 6) pe_int (nomark _)) (pw_or1 (pt_cmpR op_eq (pv 6) (pv 3) (nomark _)))))) (pss_one ps_never) pss_nil)
        (pss_one (ps_set (i := 3) scChkRun.nd rfl (.inl rfl) (pv 6)))))
      (pss_one (ps_if (pt_cmpR op_lt (pv 2) pe_int (nomark _)) (pss_one ps_never) pss_nil)))), ?_⟩
    refine ⟨_, rfl, p, _, rfl, hT, rfl, _, _, rfl, _, _, rfl, rfl, ?_⟩
    refine ⟨_, rfl, l, xs, rfl, hL, ?_⟩
    refine for_it (walk_enum (xs := xs)) (fun i σ H' => Same H H' ∧ ∃ bf y4 y5 y6, σ = [some (.ref p), some (.ref l), some (.int r.2), some bf, y4, y5, y6] ∧ (i = 0 → bf = .non) ∧ ∀ i' x, i = i' + 1 → r.1[i']? = some x → bf = .int x.2)
      ⟨Same.refl H, .non, none, none, none, rfl, fun _ => rfl, fun _ _ e => by cases e⟩ (fun i σ H' _ hP => hP.1.seq hL) ?_ ?_
    · rintro i v σ H1 H2 hi ⟨sm, bf, y4, y5, y6, rfl, hb0, hb1⟩ ⟨T, u1, u2, rfl, nT, rfl, h1, h2⟩
      cases Option.some.inj h1
      obtain ⟨x, hx, p2, rfl, hp2'⟩ := hP.get h2
      have hp2 : SqT K H p2 [.int x.1, .int x.2] := .inl (.inl hp2')
      have s2 := sm.trans (same_upd (o := .tup [.int (i : Nat), .ref p2]) nT)
      obtain ⟨o1, o2, _, _, o5⟩ := ho.gs i x hx
      refine ⟨T, _, rfl, .inl (.inl upd_same), rfl, _, _, rfl, _, _, rfl, p2, _, rfl, sameT s2 hp2, rfl, _, _, rfl, _, _, rfl, rfl, rfl, ?_⟩
      refine ⟨_, rfl, _, _, rfl, rfl, _, rfl, ?_⟩
      rw [decide_eq_false (by omega : ¬ x.1 < 1)]
      refine iteF ⟨_, rfl, _, _, rfl, rfl, _, rfl, ?_⟩
      rw [decide_eq_false (by omega : ¬ x.2 < 0)]
      refine iteF ⟨_, rfl, _, rfl, ?_⟩
      have hne : scal (.int x.2) bf = true ∧ ¬ (V.int x.2 = bf) := by
        cases i with
        | zero =>
          cases hb0 rfl
          exact ⟨rfl, by intro z; cases z⟩
        | succ i' =>
          have hlt : i' < r.1.length := by
            have := (List.getElem?_eq_some_iff.mp hx).1
            omega
          have e := hb1 i' _ rfl (List.getElem?_eq_getElem hlt)
          subst e
          refine ⟨rfl, fun z => ?_⟩
          exact (ho.gs i' _ (List.getElem?_eq_getElem hlt)).2.2.2.2 x hx (V.int.inj z)
      refine ⟨hne.1, _, rfl, ?_⟩
      rw [decide_eq_false hne.2]
      refine iteF ⟨_, rfl, s2, _, _, _, _, rfl, (fun e => by cases e), fun i' x' e hx' => ?_⟩
      cases Nat.succ.inj e
      rw [hx] at hx'
      cases hx'
      rfl
    · rintro σ H1 ⟨sm, bf, y4, y5, y6, rfl, _⟩
      refine ⟨_, rfl, _, _, rfl, rfl, _, rfl, ?_⟩
      rw [decide_eq_false (by have := ho.rest.1; omega : ¬ r.2 < 0)]
      exact iteF (q _ sm)
end
end Lw
namespace Lw
open PySem PySem.Spec L2 Lx
theorem scSigns : FnScope ["j", "wanted"] ["j", "wanted"] (defScope sSigns) := ⟨rfl, rfl, rfl, by decide +kernel, rfl, by decide +kernel, by decide +kernel⟩
theorem scAftKeep : FnScope ["first", "second", "_", "b", "a", "more_b", "b_of_both", "a_of_both"] ["first", "second"] (defScope sAftKeep) := ⟨rfl, rfl, rfl, by decide +kernel, rfl, by decide +kernel, by decide +kernel⟩
theorem scBefKeep : FnScope ["first", "second"] ["first", "second"] (defScope sBefKeep) := ⟨rfl, rfl, rfl, by decide +kernel, rfl, by decide +kernel, by decide +kernel⟩
theorem scOne : FnScope ["first", "second"] ["first", "second"] (defScope sOne) := ⟨rfl, rfl, rfl, by decide +kernel, rfl, by decide +kernel, by decide +kernel⟩
theorem scBoth : FnScope ["first", "second", "k"] ["first", "second"] (defScope sBoth) := ⟨rfl, rfl, rfl, by decide +kernel, rfl, by decide +kernel, by decide +kernel⟩
theorem wh3 : ∀ f : Fm, ¬ (HT.sIx f.vs.length 0 (some 3) = 0 ∧ HT.sIx f.vs.length f.vs.length none = f.vs.length)
  | .keep _ _ => show ¬ (HT.sIx 3 0 (some 3) = 0 ∧ HT.sIx 3 3 none = 3) by decide
  | .lf _ _ _ _ => show ¬ (HT.sIx 5 0 (some 3) = 0 ∧ HT.sIx 5 5 none = 5) by decide
  | .cr _ _ _ => show ¬ (HT.sIx 4 0 (some 3) = 0 ∧ HT.sIx 4 4 none = 4) by decide
theorem vs_len : ∀ f : Fm, f.vs.length ≤ 5
  | .keep _ _ => by show 3 ≤ 5; decide
  | .lf _ _ _ _ => Nat.le_refl 5
  | .cr _ _ _ => by show 4 ≤ 5; decide
theorem scUog : FnScope ["j", "wanted"] ["j", "wanted"] (defScope sUog) := ⟨rfl, rfl, rfl, by decide +kernel, rfl, by decide +kernel, by decide +kernel⟩
def spUog (K : PySem.W.Frag) : Sp := fun vs H Q _ => ∃ j x f, vs = [.int j, x] ∧ FmAt K H x f ∧ Q (.int (f.after j + 1)) H
def spSigns (K : PySem.W.Frag) : Sp := fun vs H Q _ => ∃ j x f, vs = [.int j, x] ∧ FmAt K H x f ∧ Q (.int (f.after j)) H
def spAftKeep (K : PySem.W.Frag) : Sp := fun vs H Q _ => ∃ x y b a g, vs = [x, y] ∧ FmAt K H x (.keep b a) ∧ FmAt K H y g ∧ ∀ v H', Same H H' → FmAt K H' v ((Fm.keep b a).both g) → Q v H'
def Fm.isKeep : Fm → Bool
  | .keep _ _ => true
  | _ => false
def spBefKeep (K : PySem.W.Frag) : Sp := fun vs H Q _ => ∃ x y f b a, vs = [x, y] ∧ FmAt K H x f ∧ Fm.isKeep f = false ∧ FmAt K H y (.keep b a) ∧ ∀ v H', Same H H' → FmAt K H' v (f.both (.keep b a)) → Q v H'
/-- units of one unit -/
def Fm.one : Fm → Fm → Int
  | .lf _ _ _ c, g => g.after c + 1
  | _, _ => 1
def spOne (K : PySem.W.Frag) : Sp := fun vs H Q _ => ∃ x y f g, vs = [x, y] ∧ FmAt K H x f ∧ Fm.isKeep f = false ∧ FmAt K H y g ∧ Q (.int (Fm.one f g)) H
def spBoth (K : PySem.W.Frag) : Sp := fun vs H Q _ => ∃ x y f g n, vs = [x, y] ∧ FmAt K H x f ∧ FmAt K H y g ∧ f.Ok n ∧ g.Ok n ∧ n ≤ 100000 ∧ ∀ v H', Same H H' → FmAt K H' v (f.both g) → Q v H'
section
variable {P : Program} {w : World} {K : PySem.W.Frag} {mg : Str → Option Value} {base : Heap} {aL : Addr}
theorem ok_signs {f : Addr} {fd : FuncData} {k : Nat} (F : Fun K "signs_after" "signs_after" sSigns f fd) (mX : mg "max" = none) : FnOk P w K mg base CX0 (k + 1) f fd ["j", "wanted"] (spSigns K) := by
  refine F.ok scSigns (fun vs H Q E h => ?_) (fun cdv A outer s H vs Q E hr h => ?_)
  · obtain ⟨j, x, f, rfl, _⟩ := h
    rfl
  · obtain ⟨j, _, f, rfl, ⟨p, rfl, hT⟩, q⟩ := h
    refine ⟨_, pss_one (ps_ret (pe_op op_add (pe_callB (call_max2 rfl) (by rfl) mX (by decide +kernel) (pa_cons pe_int (pa_cons (pe_op op_sub (pv 0) (pe_ix ix_tup (pv 1) pe_int (fun _ _ => rfl))) pa_nil))) (pe_ix ix_tup (pv 1) pe_int (fun _ _ => rfl)))), ?_⟩
    refine ⟨_, rfl, _, rfl, p, _, 1, _, rfl, rfl, hT, atI_nat (j := 1) f.vs1, _, _, rfl, rfl, _, _, rfl, _, rfl, p, _, 2, _, rfl, rfl, hT, atI_nat (j := 2) f.vs2, _, _, rfl, rfl, q⟩
theorem ok_uog {f fS : Addr} {fd fdS : FuncData} {k : Nat} (F : Fun K "units_of_group" "units_of_group" sUog f fd) (GS : FnOk P w K mg base CX0 k fS fdS ["j", "wanted"] (spSigns K)) (kS : PySem.W.keepIn K (.ref fS) = true) (bS : Binds K fdS ["j", "wanted"] []) (gS : mg "signs_after" = some (.ref fS)) :
    FnOk P w K mg base CX0 (k + 1) f fd ["j", "wanted"] (spUog K) := by
  refine F.ok scUog (fun vs H Q E h => ?_) (fun cdv A outer s H vs Q E hr h => ?_)
  · obtain ⟨j, x, f, rfl, _⟩ := h
    rfl
  · obtain ⟨j, x, f, rfl, hx, q⟩ := h
    refine ⟨_, pss_one (ps_ret (pe_op op_add (pe_call GS hr (by rfl) gS kS bS .nil pass0 (pa_cons (pv 0) (pa_cons (pv 1) pa_nil))) pe_int)), ?_⟩
    exact ⟨_, rfl, _, rfl, j, x, f, rfl, hx, _, _, rfl, rfl, q⟩
theorem ok_one {f fS : Addr} {fd fdS : FuncData} {k : Nat} (F : Fun K "units_of_one" "units_of_one" sOne f fd) (GS : FnOk P w K mg base CX0 k fS fdS ["j", "wanted"] (spUog K)) (kS : PySem.W.keepIn K (.ref fS) = true) (bS : Binds K fdS ["j", "wanted"] []) (gS : mg "units_of_group" = some (.ref fS)) :
    FnOk P w K mg base CX0 (k + 1) f fd ["first", "second"] (spOne K) := by
  refine F.ok scOne (fun vs H Q E h => ?_) (fun cdv A outer s H vs Q E hr h => ?_)
  · obtain ⟨x, y, f, g, rfl, _⟩ := h
    rfl
  · obtain ⟨_, y, f, g, rfl, ⟨p, rfl, hT⟩, hk, hy, q⟩ := h
    refine ⟨_, pss_cons (ps_if (pt_cmpR op_eq (pe_ix ix_tup (pv 0) pe_int (fun _ _ => rfl)) pe_str (nomark _)) (pss_one (ps_ret pe_int)) pss_nil)
      (pss_one (ps_ret (pe_call GS hr (by rfl) gS kS bS .nil pass0 (pa_cons (pe_ix ix_tup (pv 0) pe_int (fun _ _ => rfl)) (pa_cons (pv 1) pa_nil))))), ?_⟩
    refine ⟨_, rfl, p, _, 0, _, rfl, rfl, hT, atI_nat (j := 0) f.vs0, rfl, _, rfl, ?_⟩
    cases f with
    | keep b a => cases hk
    | lf b a k c => exact iteF ⟨_, rfl, p, _, 4, _, rfl, rfl, hT, atI_nat (j := 4) rfl, _, rfl, _, _, _, rfl, hy, q⟩
    | cr b a k => exact iteT q
theorem ok_aftKeep {f : Addr} {fd : FuncData} {k : Nat} (F : Fun K "after_keep" "after_keep" sAftKeep f fd) (mX : mg "max" = none) : FnOk P w K mg base CX0 (k + 1) f fd ["first", "second"] (spAftKeep K) := by
  refine F.ok scAftKeep (fun vs H Q E h => ?_) (fun cdv A outer s H vs Q E hr h => ?_)
  · obtain ⟨x, y, b, a, g, rfl, _⟩ := h
    rfl
  · obtain ⟨_, _, b, a, g, rfl, ⟨p, rfl, hT⟩, ⟨r, rfl, hG⟩, q⟩ := h
    refine ⟨_, pss_cons (ps_asg (pv 0) (pg_tup (by rfl) (pgs_cons (pg_name (i := 2) scAftKeep.nd rfl (.inl rfl)) (pgs_cons (pg_name (i := 3) scAftKeep.nd rfl (.inl rfl)) (pgs_cons (pg_name (i := 4) scAftKeep.nd rfl (.inl rfl)) pgs_nil)))))
      (pss_cons (ps_set (i := 5) scAftKeep.nd rfl (.inl rfl) (pe_ix ix_tup (pv 1) pe_int (fun _ _ => rfl)))
      (pss_cons (ps_set (i := 6) scAftKeep.nd rfl (.inl rfl) (pe_op op_add (pv 3) (pe_callB (call_max2 rfl) (by rfl) mX (by decide +kernel) (pa_cons pe_int (pa_cons (pe_op op_sub (pv 5) (pv 4)) pa_nil)))))
      (pss_cons (ps_set (i := 7) scAftKeep.nd rfl (.inl rfl) (pe_op op_add (pe_callB (call_max2 rfl) (by rfl) mX (by decide +kernel) (pa_cons pe_int (pa_cons (pe_op op_sub (pv 4) (pv 5)) pa_nil))) (pe_ix ix_tup (pv 1) pe_int (fun _ _ => rfl))))
      (pss_one (ps_ret (pe_op op_catA (pe_tup (pa_cons (pe_ix ix_tup (pv 1) pe_int (fun _ _ => rfl)) (pa_cons (pv 6) (pa_cons (pv 7) pa_nil)))) (pe_slice sl_tup (pv 1) (po_some pe_int) po_none))))))), ?_⟩
    refine ⟨_, rfl, p, _, rfl, hT, rfl, _, _, rfl, _, _, rfl, _, _, rfl, rfl, ?_⟩
    refine ⟨_, rfl, r, _, 1, _, rfl, rfl, hG, atI_nat (j := 1) g.vs1, ?_⟩
    refine ⟨_, rfl, _, rfl, _, rfl, _, _, rfl, rfl, _, _, rfl, _, _, rfl, rfl, ?_⟩
    refine ⟨_, rfl, _, rfl, _, _, rfl, rfl, _, _, rfl, _, rfl, r, _, 2, _, rfl, rfl, hG, atI_nat (j := 2) g.vs2, _, _, rfl, rfl, ?_⟩
    refine ⟨_, rfl, r, _, 0, _, rfl, rfl, hG, atI_nat (j := 0) g.vs0, _, rfl, _, rfl, by show 3 ≤ sizeLine; decide, fun t nt => ?_⟩
    have s1 : Same H (upd H t (.tup [.str g.nm, .int (b + (if g.b - a > 0 then g.b - a else 0)), .int ((if a - g.b > 0 then a - g.b else 0) + g.a)])) := same_upd nt
    have ht1 : upd H t (.tup [.str g.nm, .int (b + (if g.b - a > 0 then g.b - a else 0)), .int ((if a - g.b > 0 then a - g.b else 0) + g.a)]) t = some (.tup [.str g.nm, .int (b + (if g.b - a > 0 then g.b - a else 0)), .int ((if a - g.b > 0 then a - g.b else 0) + g.a)]) := upd_same
    show tSl _ _ _ _ _ (upd H t (.tup [.str g.nm, .int (b + (if g.b - a > 0 then g.b - a else 0)), .int ((if a - g.b > 0 then a - g.b else 0) + g.a)])) _
    generalize upd H t (.tup [.str g.nm, .int (b + (if g.b - a > 0 then g.b - a else 0)), .int ((if a - g.b > 0 then a - g.b else 0) + g.a)]) = H1 at s1 ht1
    refine ⟨_, rfl, 3, rfl, r, g.vs, rfl, sameT s1 hG, wh3 g, fun p2 n2 => ?_⟩
    have s2 := s1.trans (same_upd (o := .tup (cutV g.vs (some 3) none)) n2)
    have ht2 : SqT K (upd H1 p2 (.tup (cutV g.vs (some 3) none))) t [.str g.nm, .int (b + (if g.b - a > 0 then g.b - a else 0)), .int ((if a - g.b > 0 then a - g.b else 0) + g.a)] := .inl (.inl (by rw [upd_ne (ne_of_none ht1 n2)]; exact ht1))
    have hp2 : SqT K (upd H1 p2 (.tup (cutV g.vs (some 3) none))) p2 (cutV g.vs (some 3) none) := .inl (.inl upd_same)
    generalize upd H1 p2 (.tup (cutV g.vs (some 3) none)) = H2 at s2 ht2 hp2
    refine ⟨t, p2, _, _, rfl, rfl, ht2, hp2, by show 3 + _ ≤ sizeLine; have := cutV_length g.vs (some 3) none; have h5 : g.vs.length ≤ 5 := vs_len g; rw [sizeLine_eq]; omega, fun z => by (exact nomatch z), fun _ hy => ?_, fun _ hy p3 n3 => ?_⟩
    · cases g with
      | keep b' a' => exact q _ _ s2 ⟨t, rfl, ht2⟩
      | lf b' a' k' c' => exact nomatch hy
      | cr b' a' k' => exact nomatch hy
    · cases g with
      | keep b' a' => exact absurd rfl hy
      | lf b' a' k' c' => exact q _ _ (s2.trans (same_upd n3)) ⟨p3, rfl, .inl (.inl upd_same)⟩
      | cr b' a' k' => exact q _ _ (s2.trans (same_upd n3)) ⟨p3, rfl, .inl (.inl upd_same)⟩
theorem ok_befKeep {f fS : Addr} {fd fdS : FuncData} {k : Nat} (F : Fun K "before_keep" "before_keep" sBefKeep f fd) (GS : FnOk P w K mg base CX0 k fS fdS ["j", "wanted"] (spSigns K)) (kS : PySem.W.keepIn K (.ref fS) = true) (bS : Binds K fdS ["j", "wanted"] []) (gS : mg "signs_after" = some (.ref fS)) :
    FnOk P w K mg base CX0 (k + 1) f fd ["first", "second"] (spBefKeep K) := by
  refine F.ok scBefKeep (fun vs H Q E h => ?_) (fun cdv A outer s H vs Q E hr h => ?_)
  · obtain ⟨x, y, f, b, a, rfl, _⟩ := h
    rfl
  · obtain ⟨_, y, f, b, a, rfl, ⟨p, rfl, hT⟩, hk, hy, q⟩ := h
    refine ⟨_, pss_cons (ps_if (pt_cmpR op_eq (pe_ix ix_tup (pv 0) pe_int (fun _ _ => rfl)) pe_str (nomark _)) (pss_one (ps_ret (pv 0))) pss_nil)
      (pss_one (ps_ret (pe_op op_catA (pe_slice sl_tup (pv 0) po_none (po_some pe_int)) (pe_tup (pa_cons (pe_call GS hr (by rfl) gS kS bS .nil pass0 (pa_cons (pe_ix ix_tup (pv 0) pe_int (fun _ _ => rfl)) (pa_cons (pv 1) pa_nil))) pa_nil))))), ?_⟩
    refine ⟨_, rfl, p, _, 0, _, rfl, rfl, hT, atI_nat (j := 0) f.vs0, rfl, _, rfl, ?_⟩
    cases f with
    | keep b a => cases hk
    | lf b' a' k' c =>
      refine iteF ⟨_, rfl, 4, rfl, p, _, rfl, hT, (show ¬ (HT.sIx 5 0 none = 0 ∧ HT.sIx 5 5 (some 4) = 5) by decide), fun p2 n2 => ?_⟩
      have s1 : Same H (upd H p2 (.tup [.str "lf", .int b', .int a', .int k'])) := same_upd n2
      have hp2 : upd H p2 (.tup [.str "lf", .int b', .int a', .int k']) p2 = some (.tup [.str "lf", .int b', .int a', .int k']) := upd_same
      refine ⟨_, rfl, p, _, 4, _, rfl, rfl, sameT s1 hT, atI_nat (j := 4) rfl, _, rfl, _, _, _, rfl, hy.same s1, by show 1 ≤ sizeLine; decide, fun p3 n3 => ?_⟩
      have s2 := s1.trans (same_upd (o := .tup [.int ((Fm.keep b a).after c)]) n3)
      refine ⟨p2, p3, [.str "lf", .int b', .int a', .int k'], [.int ((Fm.keep b a).after c)], rfl, rfl, .inl (.inl (by rw [upd_ne (ne_of_none hp2 n3)]; exact hp2)), .inl (.inl upd_same), by show 5 ≤ sizeLine; decide, (fun z => by cases z), (fun _ z => by cases z), fun _ _ p4 n4 => ?_⟩
      exact q _ _ (s2.trans (same_upd n4)) ⟨p4, rfl, .inl (.inl upd_same)⟩
    | cr b' a' k' => exact iteT ⟨_, rfl, q _ _ (Same.refl H) ⟨p, rfl, hT⟩⟩
end
end Lw
namespace Lw
open PySem PySem.Spec L2 Lx
/-- a def and how it is called -/
structure Dn (P : Program) (w : World) (K : PySem.W.Frag) (mg : Str → Option Value) (base : Heap) (k : Nat) (nm : Str) (ps : List Str) (sp : Sp) : Prop where
  ex : ∃ f fd, FnOk P w K mg base CX0 k f fd ps sp ∧ PySem.W.keepIn K (.ref f) = true ∧ Binds K fd ps [] ∧ mg nm = some (.ref f)
theorem nk_k {f : Fm} (h : Fm.isKeep f = false) : ∃ k, f.vs[3]? = some (.int k) := by
  cases f with
  | keep _ _ => cases h
  | lf _ _ k _ => exact ⟨k, rfl⟩
  | cr _ _ k => exact ⟨k, rfl⟩
theorem nk_ok {f : Fm} {n : Nat} {k : Int} (h : Fm.isKeep f = false) (o : f.Ok n) (e : f.vs[3]? = some (.int k)) : 0 < k ∧ Sm n k := by
  cases f with
  | keep _ _ => cases h
  | lf _ _ _ _ => cases e; exact ⟨o.2.2.1, o.2.2.2.2.2.2.1⟩
  | cr _ _ _ => cases e; exact ⟨o.2.2.1, o.2.2.2.2.2⟩
theorem nk_pos {f : Fm} {n : Nat} (h : Fm.isKeep f = false) (o : f.Ok n) : 0 < n := by
  obtain ⟨k, e⟩ := nk_k h
  have h1 := nk_ok h o e
  have h2 : k.natAbs < 2 ^ n := h1.2
  have h3 := h1.1
  rcases Nat.eq_zero_or_pos n with z | z
  · subst z
    omega
  · exact z
theorem one_ok {f g : Fm} {n : Nat} (h : Fm.isKeep f = false) (o : f.Ok n) (og : g.Ok n) : 0 < Fm.one f g ∧ Sm (n + 2) (Fm.one f g) := by
  have h4 : 2 ^ 2 ≤ 2 ^ (n + 2) := Nat.pow_le_pow_right (by decide) (by omega)
  cases f with
  | keep _ _ => cases h
  | lf b a k c =>
    have e := Fm.after_ok og o.2.2.2.1 o.2.2.2.2.2.2.2
    have e2 : 2 ^ (n + 2) = 2 ^ (n + 1) * 2 := Nat.pow_succ 2 (n + 1)
    have e3 : (g.after c).natAbs < 2 ^ (n + 1) := e.2
    have e4 := e.1
    have e5 : 1 ≤ 2 ^ (n + 1) := Nat.one_le_two_pow
    refine ⟨by show 0 < g.after c + 1; omega, ?_⟩
    show (g.after c + 1).natAbs < 2 ^ (n + 2)
    rw [e2]
    generalize 2 ^ (n + 1) = M at *
    omega
  | cr _ _ _ => exact ⟨(by decide : (0 : Int) < 1), Nat.lt_of_lt_of_le (by decide : (1 : Int).natAbs < 2 ^ 2) h4⟩
theorem wh4 : ∀ f : Fm, ¬ (HT.sIx f.vs.length 0 (some 4) = 0 ∧ HT.sIx f.vs.length f.vs.length none = f.vs.length)
  | .keep _ _ => show ¬ (HT.sIx 3 0 (some 4) = 0 ∧ HT.sIx 3 3 none = 3) by decide
  | .lf _ _ _ _ => show ¬ (HT.sIx 5 0 (some 4) = 0 ∧ HT.sIx 5 5 none = 5) by decide
  | .cr _ _ _ => show ¬ (HT.sIx 4 0 (some 4) = 0 ∧ HT.sIx 4 4 none = 4) by decide
section
variable {P : Program} {w : World} {K : PySem.W.Frag} {mg : Str → Option Value} {base : Heap} {aL : Addr}
theorem ok_both {f fA fB fO : Addr} {fd fdA fdB fdO : FuncData} {k : Nat} (F : Fun K "form_of_both" "form_of_both" sBoth f fd)
    (GA : FnOk P w K mg base CX0 k fA fdA ["first", "second"] (spAftKeep K)) (kA : PySem.W.keepIn K (.ref fA) = true) (bA : Binds K fdA ["first", "second"] []) (gA : mg "after_keep" = some (.ref fA))
    (GB : FnOk P w K mg base CX0 k fB fdB ["first", "second"] (spBefKeep K)) (kB : PySem.W.keepIn K (.ref fB) = true) (bB : Binds K fdB ["first", "second"] []) (gB : mg "before_keep" = some (.ref fB))
    (GO : FnOk P w K mg base CX0 k fO fdO ["first", "second"] (spOne K)) (kO : PySem.W.keepIn K (.ref fO) = true) (bO : Binds K fdO ["first", "second"] []) (gO : mg "units_of_one" = some (.ref fO)) :
    FnOk P w K mg base CX0 (k + 1) f fd ["first", "second"] (spBoth K) := by
  refine F.ok scBoth (fun vs H Q E h => ?_) (fun cdv A outer s H vs Q E hr h => ?_)
  · obtain ⟨x, y, f, g, n, rfl, _⟩ := h
    rfl
  · obtain ⟨_, _, f, g, n, rfl, ⟨p, rfl, hT⟩, ⟨r, rfl, hG⟩, of, og, hn, q⟩ := h
    refine ⟨_, pss_cons (ps_if (pt_cmpR op_eq (pe_ix ix_tup (pv 0) pe_int (fun _ _ => rfl)) pe_str (nomark _)) (pss_one (ps_ret (pe_call GA hr (by rfl) gA kA bA .nil pass0 (pa_cons (pv 0) (pa_cons (pv 1) pa_nil))))) pss_nil)
      (pss_cons (ps_if (pt_cmpR op_eq (pe_ix ix_tup (pv 1) pe_int (fun _ _ => rfl)) pe_str (nomark _)) (pss_one (ps_ret (pe_call GB hr (by rfl) gB kB bB .nil pass0 (pa_cons (pv 0) (pa_cons (pv 1) pa_nil))))) pss_nil)
      (pss_cons (ps_set (i := 2) scBoth.nd rfl (.inl rfl) (pe_op op_mulW (pe_op op_mulW (pe_ix ix_tup (pv 0) pe_int (fun _ _ => rfl)) (pe_call GO hr (by rfl) gO kO bO .nil pass0 (pa_cons (pv 0) (pa_cons (pv 1) pa_nil)))) (pe_ix ix_tup (pv 1) pe_int (fun _ _ => rfl))))
      (pss_one (ps_ret (pe_op op_catA (pe_tup (pa_cons (pe_ix ix_tup (pv 1) pe_int (fun _ _ => rfl)) (pa_cons (pe_ix ix_tup (pv 0) pe_int (fun _ _ => rfl)) (pa_cons (pe_ix ix_tup (pv 0) pe_int (fun _ _ => rfl)) (pa_cons (pv 2) pa_nil))))) (pe_slice sl_tup (pv 1) (po_some pe_int) po_none)))))), ?_⟩
    refine ⟨_, rfl, p, _, 0, _, rfl, rfl, hT, atI_nat (j := 0) f.vs0, rfl, _, rfl, ?_⟩
    by_cases hf : Fm.isKeep f = true
    · cases f with
      | keep b a => exact iteT ⟨_, rfl, _, rfl, _, _, b, a, g, rfl, ⟨p, rfl, hT⟩, ⟨r, rfl, hG⟩, q⟩
      | _ => cases hf
    · have hf' : Fm.isKeep f = false := by simpa using hf
      have hnm : decide (V.str f.nm = V.str "keep") = false := by
        cases f with
        | keep b a => cases hf'
        | _ => rfl
      rw [hnm]
      refine iteF ⟨_, rfl, r, _, 0, _, rfl, rfl, hG, atI_nat (j := 0) g.vs0, rfl, _, rfl, ?_⟩
      by_cases hg : Fm.isKeep g = true
      · cases g with
        | keep b a => exact iteT ⟨_, rfl, _, rfl, _, _, f, b, a, rfl, ⟨p, rfl, hT⟩, hf', ⟨r, rfl, hG⟩, q⟩
        | _ => cases hg
      · have hg' : Fm.isKeep g = false := by simpa using hg
        have hnm : decide (V.str g.nm = V.str "keep") = false := by
          cases g with
          | keep b a => cases hg'
          | _ => rfl
        rw [hnm]
        obtain ⟨kf, ekf⟩ := nk_k hf'
        obtain ⟨kg, ekg⟩ := nk_k hg'
        refine iteF ⟨_, rfl, p, _, 3, _, rfl, rfl, hT, atI_nat (j := 3) ekf, _, rfl, _, rfl, _, _, f, g, rfl, ⟨p, rfl, hT⟩, hf', ⟨r, rfl, hG⟩, ?_⟩
        have b1 := one_ok hf' of og
        have bf := nk_ok hf' of ekf
        have bg := nk_ok hg' og ekg
        refine ⟨_, _, rfl, rfl, wide_mul bf.2 b1.2 (nk_pos hf' of) (by omega) (by omega), _, rfl, r, _, 3, _, rfl, rfl, hG, atI_nat (j := 3) ekg, _, _, rfl, rfl, wide_mul (bf.2.mul b1.2) bg.2 (by omega) (nk_pos hg' og) (by omega), ?_⟩
        refine ⟨_, rfl, r, _, 0, _, rfl, rfl, hG, atI_nat (j := 0) g.vs0, _, rfl, p, _, 1, _, rfl, rfl, hT, atI_nat (j := 1) f.vs1, _, rfl, p, _, 2, _, rfl, rfl, hT, atI_nat (j := 2) f.vs2, _, rfl, by show 4 ≤ sizeLine; decide, fun t nt => ?_⟩
        have s1 : Same H (upd H t (.tup [.str g.nm, .int f.b, .int f.a, .int (kf * Fm.one f g * kg)])) := same_upd nt
        have ht1 : upd H t (.tup [.str g.nm, .int f.b, .int f.a, .int (kf * Fm.one f g * kg)]) t = some (.tup [.str g.nm, .int f.b, .int f.a, .int (kf * Fm.one f g * kg)]) := upd_same
        show tSl _ _ _ _ _ (upd H t (.tup [.str g.nm, .int f.b, .int f.a, .int (kf * Fm.one f g * kg)])) _
        generalize upd H t (.tup [.str g.nm, .int f.b, .int f.a, .int (kf * Fm.one f g * kg)]) = H1 at s1 ht1
        refine ⟨_, rfl, 4, rfl, r, g.vs, rfl, sameT s1 hG, wh4 g, fun p2 n2 => ?_⟩
        have s2 := s1.trans (same_upd (o := .tup (cutV g.vs (some 4) none)) n2)
        have ht2 : SqT K (upd H1 p2 (.tup (cutV g.vs (some 4) none))) t [.str g.nm, .int f.b, .int f.a, .int (kf * Fm.one f g * kg)] := .inl (.inl (by rw [upd_ne (ne_of_none ht1 n2)]; exact ht1))
        have hp2 : SqT K (upd H1 p2 (.tup (cutV g.vs (some 4) none))) p2 (cutV g.vs (some 4) none) := .inl (.inl upd_same)
        generalize upd H1 p2 (.tup (cutV g.vs (some 4) none)) = H2 at s2 ht2 hp2
        refine ⟨t, p2, _, _, rfl, rfl, ht2, hp2, by show 4 + _ ≤ sizeLine; have := cutV_length g.vs (some 4) none; have h5 : g.vs.length ≤ 5 := vs_len g; rw [sizeLine_eq]; omega, (fun z => by cases z), fun _ hy => ?_, fun _ hy p3 n3 => ?_⟩
        · cases g with
          | keep b' a' => cases hg'
          | lf b' a' k' c' => exact nomatch hy
          | cr b' a' k' =>
            cases ekg
            cases f with
            | keep b a => cases hf'
            | lf b a k c => cases ekf; exact q _ _ s2 ⟨t, rfl, ht2⟩
            | cr b a k => cases ekf; exact q _ _ s2 ⟨t, rfl, ht2⟩
        · cases g with
          | keep b' a' => cases hg'
          | lf b' a' k' c' =>
            cases ekg
            cases f with
            | keep b a => cases hf'
            | lf b a k c => cases ekf; exact q _ _ (s2.trans (same_upd n3)) ⟨p3, rfl, .inl (.inl upd_same)⟩
            | cr b a k => cases ekf; exact q _ _ (s2.trans (same_upd n3)) ⟨p3, rfl, .inl (.inl upd_same)⟩
          | cr b' a' k' => exact absurd rfl hy
end
end Lw
namespace Lw
open PySem PySem.Spec L2 Lx
theorem scFoc : FnScope ["chain", "wanted", "letter"] ["chain"] (defScope sFoc) := ⟨rfl, rfl, rfl, by decide +kernel, rfl, by decide +kernel, by decide +kernel⟩
def spFoc (K : PySem.W.Frag) : Sp := fun vs H Q _ => ∃ x, vs = [.str x] ∧ ChOk x ∧ x.cps.size ≤ 7000 ∧ ∀ v H', Same H H' → FmAt K H' v (formOf x) → FLe x.cps.size (formOf x) → Q v H'
section
variable {P : Program} {w : World} {K : PySem.W.Frag} {mg : Str → Option Value} {base : Heap} {aN aS : Addr}
theorem ok_foc {f fB : Addr} {fd fdB : FuncData} {k : Nat} (F : Fun K "form_of_chain" "form_of_chain" sFoc f fd) (T : StepT K w mg aN aS)
    (GB : FnOk P w K mg base CX0 k fB fdB ["first", "second"] (spBoth K)) (kB : PySem.W.keepIn K (.ref fB) = true) (bB : Binds K fdB ["first", "second"] []) (gB : mg "form_of_both" = some (.ref fB)) :
    FnOk P w K mg base CX0 (k + 1) f fd ["chain"] (spFoc K) := by
  refine F.ok scFoc (fun vs H Q E h => ?_) (fun cdv A outer s H vs Q E hr h => ?_)
  · obtain ⟨x, rfl, _⟩ := h
    rfl
  · obtain ⟨x, rfl, hx, hsz, q⟩ := h
    refine ⟨_, pss_cons (ps_set (i := 1) scFoc.nd rfl (.inl rfl) (pe_glob (v := .ref aN) rfl T.gN rfl))
      (pss_cons (ps_for PassesOwn.never rfl (pi_str (pv 0)) (pg_name (i := 2) scFoc.nd rfl (.inl rfl))
        (pss_one (ps_set (i := 1) scFoc.nd rfl (.inl rfl) (pe_call GB hr (by rfl) gB kB bB .nil pass0 (pa_cons (pv 1) (pa_cons (pe_ix ix_kdict (pe_glob (v := .ref aS) rfl T.gS rfl) (pv 2) (fun _ _ => rfl)) pa_nil))))))
      (pss_one (ps_ret (pv 1)))), ?_⟩
    refine ⟨_, rfl, x, rfl, ?_⟩
    refine for_it walk_str (fun i σ H' => Same H H' ∧ ∃ v y2, σ = [some (.str x), some v, y2] ∧ FmAt K H' v (formL (x.cps.toList.take i)) ∧ FLe i (formL (x.cps.toList.take i)))
      ⟨Same.refl H, .ref aN, none, rfl, T.n H, ⟨by decide, by decide, by decide, by decide⟩⟩ (fun _ _ _ _ _ => trivial) ?_ ?_
    · rintro i u σ H1 H2 hi ⟨sm, v, y2, rfl, hv, hl⟩ ⟨rfl, c, hc, rfl⟩
      have hcm : c ∈ x.cps.toList := by rw [Array.mem_toList_iff]; exact Array.mem_of_getElem? hc
      obtain ⟨u, hd, hu⟩ := T.s c (hx c hcm)
      have hs : FLe (i + 1) (stepF c) := by
        have := FLe.step (L := i) (by omega) (hx c hcm) (f := nothing) ⟨by decide, by omega, by decide, by omega⟩
        rcases step_cases (hx c hcm) with e | e | e | e <;> rw [e] at this ⊢ <;> exact this
      have htk : x.cps.toList.take (i + 1) = x.cps.toList.take i ++ [c] := by
        rw [List.take_succ]
        have : x.cps.toList[i]? = some c := by rw [Array.getElem?_toList]; exact hc
        rw [this]
        rfl
      refine ⟨_, rfl, _, rfl, aS, _, u, rfl, rfl, hd, ?_⟩
      refine ⟨_, _, formL (x.cps.toList.take i), stepF c, 13 * (i + 1) + 1, rfl, hv, hu _, hl.ok.mono (by omega), hs.ok, by omega, fun v2 H3 s3 hv2 => ?_⟩
      refine ⟨sm.trans s3, v2, _, rfl, ?_, ?_⟩
      · rw [htk]
        unfold formL
        rw [List.foldl_append]
        exact hv2
      · rw [htk]
        unfold formL
        rw [List.foldl_append]
        exact hl.step (by omega) (hx c hcm)
    · rintro σ H1 ⟨sm, v, y2, rfl, hv, hl⟩
      have e : x.cps.toList.take x.cps.size = x.cps.toList := List.take_of_length_le (by simp)
      rw [e] at hv hl
      exact ⟨_, rfl, q _ _ sm hv hl⟩
end
end Lw
namespace Lw
open PySem PySem.Spec L2 Lx
theorem scMerged : FnScope ["groups", "merged", "many", "j"] ["groups"] (defScope sMerged) := ⟨rfl, rfl, rfl, by decide +kernel, rfl, by decide +kernel, by decide +kernel⟩
def spMerged (K : PySem.W.Frag) : Sp := fun vs H Q _ => ∃ l gs, vs = [.ref l] ∧ GsAt K H l gs ∧ gs.length ≤ 1000 ∧ ∀ p H' xs, H p = none → Same H H' → H' p = some (.lst xs) → Prs K H' xs (merged gs) → Q (.ref p) H'
section
variable {P : Program} {w : World} {K : PySem.W.Frag} {mg : Str → Option Value} {base : Heap}
theorem ok_merged {f : Addr} {fd : FuncData} {k : Nat} (F : Fun K "merged_groups" "merged_groups" sMerged f fd) : FnOk P w K mg base CX0 (k + 1) f fd ["groups"] (spMerged K) := by
  refine F.ok scMerged (fun vs H Q E h => ?_) (fun cdv A outer s H vs Q E hr h => ?_)
  · obtain ⟨l, gs, rfl, _⟩ := h
    rfl
  · obtain ⟨l, gs, rfl, ⟨xs, hL, hP⟩, hlen, q⟩ := h
    refine ⟨_, pss_cons (ps_set (i := 1) scMerged.nd rfl (.inl rfl) (pe_lst pa_nil))
      (pss_cons (ps_for PassesOwn.never rfl (pi_list (pv 0)) (pg_tup (by rfl) (pgs_cons (pg_name (i := 2) scMerged.nd rfl (.inl rfl)) (pgs_cons (pg_name (i := 3) scMerged.nd rfl (.inl rfl)) pgs_nil)))
        (pss_one (ps_if (PW.pt (pw_and (pt_truth (pv 1) (fun _ => rfl)) (pw_and1 (pt_cmpR op_eq (pe_ix ix_tup (pe_ix ix_list (pv 1) (pe_un un_neg pe_int) (fun _ _ => rfl)) pe_int (fun _ _ => rfl)) (pv 3) (nomark _)))))
          (pss_one (ps_asg (pe_tup (pa_cons (pe_op op_add (pe_ix ix_tup (pe_ix ix_list (pv 1) (pe_un un_neg pe_int) (fun _ _ => rfl)) pe_int (fun _ _ => rfl)) (pv 2)) (pa_cons (pv 3) pa_nil))) (pg_sub (pv 1) (pe_un un_neg pe_int) set_list)))
          (pss_one (ps_expr (pe_bm PySem.F.plainAttrs_list PySem.F.slot_list_append PySem.F.type_list_append mt_append (pv 1) (pa_cons (pe_tup (pa_cons (pv 2) (pa_cons (pv 3) pa_nil))) pa_nil)))))))
      (pss_one (ps_ret (pv 1)))), ?_⟩
    refine ⟨Nat.zero_le _, fun p np => ?_⟩
    refine ⟨_, rfl, l, rfl, ⟨_, (same_upd (o := .lst []) np).seq hL⟩, ?_⟩
    refine for_it (walk_list (xs := xs)) (fun i σ H' => Same H H' ∧ ∃ y2 y3 zs, σ = [some (.ref l), some (.ref p), y2, y3] ∧ H' p = some (.lst zs) ∧ Prs K H' zs (merged (gs.take i)) ∧ zs.length ≤ i)
      ⟨same_upd np, none, none, [], rfl, upd_same, .nil, Nat.le_refl _⟩ (fun i σ H' _ hQ => hQ.1.seq hL) ?_ ?_
    · rintro i u σ H1 H2 hi ⟨sm, y2, y3, zs, rfl, hp, hz, hzl⟩ ⟨rfl, hu⟩
      obtain ⟨x, hx, a, rfl, ha'⟩ := hP.get hu
      have ha : SqT K H a [.int x.1, .int x.2] := .inl (.inl ha')
      have htk : merged (gs.take (i + 1)) = addTo (Lx.merged (gs.take i)) x := by
        unfold Lx.merged
        rw [List.take_succ, hx, List.foldl_append]
        rfl
      have ha1 := sameT sm ha
      have hxl := hP.len
      refine ⟨a, _, rfl, ha1, rfl, _, _, rfl, _, _, rfl, rfl, ?_⟩
      refine ⟨_, rfl, !zs.isEmpty, .inl ⟨zs, .inl (.inl hp), rfl⟩, ?_⟩
      have app : ∀ t, H2 t = none → addTo (Lx.merged (gs.take i)) x = Lx.merged (gs.take i) ++ [x] →
          Same H (upd (upd H2 t (.tup [.int x.1, .int x.2])) p (.lst (zs ++ [.ref t]))) ∧ (upd (upd H2 t (.tup [.int x.1, .int x.2])) p (.lst (zs ++ [.ref t]))) p = some (.lst (zs ++ [.ref t])) ∧
          Prs K (upd (upd H2 t (.tup [.int x.1, .int x.2])) p (.lst (zs ++ [.ref t]))) (zs ++ [.ref t]) (merged (gs.take (i + 1))) ∧ (zs ++ [V.ref t]).length ≤ i + 1 := fun t nt e => by
        have s1 := same_upd (o := .tup [.int x.1, .int x.2]) nt
        refine ⟨Same.own (sm.trans s1) np, upd_same, ?_, by rw [List.length_append]; exact Nat.add_le_add_right hzl 1⟩
        rw [htk, e]
        exact Prs.lstUpd (s1 _ _ hp) ((hz.same s1).append (.cons ⟨t, rfl, upd_same⟩ .nil))
      rcases snoc_or (Lx.merged (gs.take i)) with e0 | ⟨as, y, e0⟩
      · have hz0 : zs = [] := by
          have := hz.len
          rw [e0] at this
          exact List.eq_nil_of_length_eq_zero this
        have app' := app
        subst hz0
        refine iteF (iteF ?_)
        refine ⟨_, rfl, .inl ⟨rfl, _, .inl (.inl hp)⟩, _, rfl, _, rfl, by show 2 ≤ sizeLine; decide, fun t nt => ?_⟩
        refine ⟨p, [], .ref t, rfl, rfl, same_upd nt _ _ hp, by rw [sizeLine_eq]; decide, ?_⟩
        obtain ⟨r1, r2, r3, r4⟩ := app t nt (by rw [e0]; rfl)
        exact ⟨r1, _, _, _, rfl, r2, r3, r4⟩
      · rw [e0] at hz
        obtain ⟨ws, v, rfl, hw, a2, rfl, ha2'⟩ := Prs.back hz
        have ha2 : SqT K H2 a2 [.int y.1, .int y.2] := .inl (.inl ha2')
        have hemp : (!(ws ++ [V.ref a2]).isEmpty) = true := by simp
        rw [hemp]
        refine iteT ?_
        refine ⟨_, rfl, 1, rfl, p, _, -1, _, rfl, rfl, .inl (.inl hp), atI_last ws (.ref a2), a2, _, 1, _, rfl, rfl, ha2, atI_nat (j := 1) rfl, _, rfl, rfl, _, rfl, ?_⟩
        by_cases ej : y.2 = x.2
        · rw [decide_eq_true (by rw [ej])]
          refine iteT ?_
          refine ⟨_, rfl, 1, rfl, p, _, -1, _, rfl, rfl, .inl (.inl hp), atI_last ws (.ref a2), a2, _, 0, _, rfl, rfl, ha2, atI_nat (j := 0) rfl, _, rfl, _, _, rfl, rfl, _, rfl, by show 2 ≤ sizeLine; decide, fun t nt => ?_⟩
          have s1 := same_upd (o := .tup [.int (y.1 + x.1), .int x.2]) nt
          refine ⟨_, rfl, 1, rfl, p, _, -1, _, rfl, rfl, s1 _ _ hp, ixN_last ws (.ref a2), ?_⟩
          have eset : (ws ++ [V.ref a2]).set ws.length (.ref t) = ws ++ [V.ref t] := by simp
          rw [eset]
          refine ⟨Same.own (sm.trans s1) np, _, _, ws ++ [.ref t], rfl, upd_same, ?_, ?_⟩
          · rw [htk, e0, addTo_snoc, if_pos ej]
            exact Prs.lstUpd (s1 _ _ hp) ((hw.same s1).append (.cons ⟨t, rfl, upd_same⟩ .nil))
          · simp only [List.length_append, List.length_cons, List.length_nil] at hzl ⊢
            omega
        · rw [decide_eq_false (fun z => ej (V.int.inj z))]
          refine iteF ?_
          refine ⟨_, rfl, .inl ⟨rfl, _, .inl (.inl hp)⟩, _, rfl, _, rfl, by show 2 ≤ sizeLine; decide, fun t nt => ?_⟩
          refine ⟨p, _, .ref t, rfl, rfl, same_upd nt _ _ hp, by rw [sizeLine_eq]; simp only [List.length_append, List.length_cons, List.length_nil] at hzl ⊢; have := hP.len; omega, ?_⟩
          obtain ⟨r1, r2, r3, r4⟩ := app t nt (by rw [e0, addTo_snoc, if_neg ej])
          exact ⟨r1, _, _, _, rfl, r2, r3, r4⟩
    · rintro σ H1 ⟨sm, y2, y3, zs, rfl, hp, hz, hzl⟩
      rw [List.take_of_length_le (by rw [← hP.len]; exact Nat.le_refl _)] at hz
      exact ⟨_, rfl, q p H1 zs np sm hp hz⟩
end
end Lw
namespace Lw
open PySem PySem.Spec L2 Lx
abbrev nUnits : List Str := ["run", "wanted", "groups", "rest", "many", "j"]
theorem scUnits : FnScope nUnits ["run", "wanted"] (defScope sUnits) := ⟨rfl, rfl, rfl, by decide +kernel, rfl, by decide +kernel, by decide +kernel⟩
def spUnits (K : PySem.W.Frag) : Sp := fun vs H Q _ => ∃ x l r y f n, vs = [x, y] ∧ RnAt K H x l r ∧ FmAt K H y f ∧ RnSm n r ∧ f.Ok n ∧ n ≤ 100000 ∧ ∀ H', Same H H' → Q (.int (units r f)) H'
section
variable {P : Program} {w : World} {K : PySem.W.Frag} {mg : Str → Option Value} {base : Heap}
theorem ok_units {f fS : Addr} {fd fdS : FuncData} {k : Nat} (F : Fun K "units" "units" sUnits f fd) (GS : FnOk P w K mg base CX0 k fS fdS ["j", "wanted"] (spUog K)) (kS : PySem.W.keepIn K (.ref fS) = true) (bS : Binds K fdS ["j", "wanted"] []) (gS : mg "units_of_group" = some (.ref fS)) (mS : mg "sum" = none) :
    FnOk P w K mg base CX0 (k + 1) f fd ["run", "wanted"] (spUnits K) := by
  refine F.ok scUnits (fun vs H Q E h => ?_) (fun cdv A outer s H vs Q E hr h => ?_)
  · obtain ⟨x, l, r, y, f, n, rfl, _⟩ := h
    rfl
  · obtain ⟨_, l, r, y, f, n, rfl, ⟨p, rfl, hT, xs, hL, hP⟩, hy, hs, hf, hn, q⟩ := h
    refine ⟨_, pss_cons (ps_asg (pv 0) (pg_tup (by rfl) (pgs_cons (pg_name (i := 2) scUnits.nd rfl (.inl rfl)) (pgs_cons (pg_name (i := 3) scUnits.nd rfl (.inl rfl)) pgs_nil))))
      (pss_one (ps_ret (pe_op op_add (pe_callB (cr_sum rfl) (by rfl) mS (by decide +kernel) (pa_cons (pe_lc (own := [("many", 4), ("j", 5)]) (g := gTup K 2 (gCons (gName 4) (gCons (gName 5) gNil))) (tt := tYes) rfl scUnits.nd (pi_list (pv 2)) (blkOk_by (own := [("many", 4), ("j", 5)]) (N := nUnits) (sc := defScope sUnits) (by decide +kernel))
          (fun _ _ _ _ _ => pg_tup (by rfl) (pgs_cons (pg_name (i := 4) scUnits.nd rfl (.inl rfl)) (pgs_cons (pg_name (i := 5) scUnits.nd rfl (.inl rfl)) pgs_nil))) (fun _ _ _ _ _ => pts_nil)
          (fun _ _ _ _ _ => pe_op op_mulW (pv 4) (pe_call GS hr (by rfl) gS kS bS .nil pass0 (pa_cons (pv 5) (pa_cons (pv 1) pa_nil))))) pa_nil)) (pv 3)))), ?_⟩
    refine ⟨_, rfl, p, _, rfl, hT, rfl, _, _, rfl, _, _, rfl, rfl, ?_⟩
    refine ⟨_, rfl, l, rfl, ⟨_, hL⟩, fun D nD => ?_⟩
    refine lc_it (walk_list (xs := xs)) (fun i H' => Same H H' ∧ H' D = some (.lst (((r.1.take i).map fun x => x.1 * (f.after x.2 + 1)).map V.int))) ⟨same_upd nD, upd_same⟩ (fun i H' _ hQ => hQ.1.seq hL) ?_ ?_
    · rintro i u H1 H2 hi ⟨sm, hD⟩ ⟨rfl, hu⟩
      obtain ⟨x, hx, a, rfl, ha'⟩ := hP.get hu
      have ha : SqT K H a [.int x.1, .int x.2] := .inl (.inl ha')
      have hxm := List.mem_of_getElem? hx
      obtain ⟨x1, x2, x3, x4⟩ := hs.1 x hxm
      have hb := Fm.after_ok (hf.mono (Nat.le_succ n)) x2 (x4.mono (Nat.le_succ n))
      have hb2 : Sm (n + 3) (f.after x.2 + 1) := hb.2.add (Nat.lt_of_lt_of_le (by decide : (1 : Int).natAbs < 2 ^ 1) (Nat.pow_le_pow_right (by decide) (by omega)))
      refine ⟨a, _, rfl, sameT sm ha, rfl, _, _, rfl, _, _, rfl, rfl, rfl, ?_⟩
      refine ⟨_, rfl, _, rfl, _, rfl, x.2, y, f, rfl, hy.same sm, _, _, rfl, rfl, wide_mul (x3.mono (Nat.le_succ n)) hb2 (by omega) (by omega) (by omega), ?_⟩
      refine ⟨_, hD, ?_, Same.own sm nD, ?_⟩
      · have := hs.2.2.2
        rw [List.length_map, List.length_map, List.length_take, sizeLine_eq]
        omega
      · rw [upd_same, List.take_succ, hx, List.map_append, List.map_append]
        rfl
    · rintro H1 ⟨sm, hD⟩
      rw [List.take_of_length_le (by rw [← hP.len]; exact Nat.le_refl _)] at hD
      refine ⟨D, _, rfl, .inl (.inl hD), _, rfl, _, _, rfl, rfl, ?_⟩
      rw [sum_mapV]
      exact q _ sm
end
end Lw
namespace Lw
open PySem PySem.Spec L2 Lx
abbrev nRunAft : List Str := ["run", "wanted", "groups", "rest", "many", "j"]
theorem scRunAft : FnScope nRunAft ["run", "wanted"] (defScope sRunAft) := ⟨rfl, rfl, rfl, by decide +kernel, rfl, by decide +kernel, by decide +kernel⟩
theorem scRou : FnScope ["total", "wanted", "number"] ["total", "wanted"] (defScope sRou) := ⟨rfl, rfl, rfl, by decide +kernel, rfl, by decide +kernel, by decide +kernel⟩
/-- the run that a form which keeps no groups makes of so many units -/
def ofUnits (t : Int) : Fm → List (Int × Int) × Int
  | .keep _ _ => ([], 0)
  | .lf _ _ k c => if k * t = 0 then ([], 0) else ([(k * t, c)], 0)
  | .cr _ _ k => ([], k * t)
theorem runAfter_units {r : List (Int × Int) × Int} {f : Fm} (h : Fm.isKeep f = false) : runAfter r f = ofUnits (units r f) f := by
  cases f with
  | keep _ _ => cases h
  | lf _ _ _ _ => rfl
  | cr _ _ _ => rfl
def spRou (K : PySem.W.Frag) : Sp := fun vs H Q _ => ∃ t y f n, vs = [.int t, y] ∧ FmAt K H y f ∧ Fm.isKeep f = false ∧ f.Ok n ∧ Sm (2 * n + 20) t ∧ 0 < n ∧ n ≤ 100000 ∧ ∀ v H', Same H H' → NewRn K H H' v (ofUnits t f) → Q v H'
def spRunAft (K : PySem.W.Frag) : Sp := fun vs H Q _ => ∃ x l r y f n, vs = [x, y] ∧ RnAt K H x l r ∧ FmAt K H y f ∧ RnSm n r ∧ f.Ok n ∧ 0 < n ∧ n ≤ 100000 ∧ ∀ v H', Same H H' → NewRn K H H' v (runAfter r f) → Q v H'
section
variable {P : Program} {w : World} {K : PySem.W.Frag} {mg : Str → Option Value} {base : Heap}
theorem ok_rou {f : Addr} {fd : FuncData} {k : Nat} (F : Fun K "run_of_units" "run_of_units" sRou f fd) : FnOk P w K mg base CX0 (k + 1) f fd ["total", "wanted"] (spRou K) := by
  refine F.ok scRou (fun vs H Q E h => ?_) (fun cdv A outer s H vs Q E hr h => ?_)
  · obtain ⟨t, y, f, n, rfl, _⟩ := h
    rfl
  · obtain ⟨tot, _, f, n, rfl, ⟨yp, rfl, hY⟩, hk, hf, hu, hn0, hn, q⟩ := h
    refine ⟨_, pss_cons (ps_set (i := 2) scRou.nd rfl (.inl rfl) (pe_op op_mulW (pe_ix ix_tup (pv 1) pe_int (fun _ _ => rfl)) (pv 0)))
      (pss_cons (ps_if (pt_cmpR op_eq (pe_ix ix_tup (pv 1) pe_int (fun _ _ => rfl)) pe_str (nomark _)) (pss_one (ps_ret (pe_tup (pa_cons (pe_lst pa_nil) (pa_cons (pv 2) pa_nil))))) pss_nil)
      (pss_cons (ps_if (pt_cmpR op_eq (pv 2) pe_int (nomark _)) (pss_one (ps_ret (pe_tup (pa_cons (pe_lst pa_nil) (pa_cons pe_int pa_nil))))) pss_nil)
      (pss_one (ps_ret (pe_tup (pa_cons (pe_lst (pa_cons (pe_tup (pa_cons (pv 2) (pa_cons (pe_ix ix_tup (pv 1) pe_int (fun _ _ => rfl)) pa_nil))) pa_nil)) (pa_cons pe_int pa_nil))))))), ?_⟩
    cases f with
    | keep b a => cases hk
    | cr b a k' =>
      refine ⟨_, rfl, yp, _, 3, _, rfl, rfl, hY, atI_nat (j := 3) rfl, _, rfl, _, _, rfl, rfl, wide_mul hf.2.2.2.2.2 hu hn0 (by omega) (by omega), ?_⟩
      refine ⟨_, rfl, yp, _, 0, _, rfl, rfl, hY, atI_nat (j := 0) rfl, rfl, _, rfl, iteT ?_⟩
      refine ⟨Nat.zero_le _, fun p2 np2 => ⟨_, rfl, by show 2 ≤ sizeLine; decide, fun t nt => ?_⟩⟩
      have s2 := same_upd (o := .lst []) np2
      have s3 := same_upd (o := .tup [.ref p2, .int (k' * tot)]) nt
      exact q _ _ (s2.trans s3) ⟨t, p2, [], rfl, s2.free nt, np2, upd_same, s3 _ _ upd_same, .nil⟩
    | lf b a k' c =>
      refine ⟨_, rfl, yp, _, 3, _, rfl, rfl, hY, atI_nat (j := 3) rfl, _, rfl, _, _, rfl, rfl, wide_mul hf.2.2.2.2.2.2.1 hu hn0 (by omega) (by omega), ?_⟩
      refine ⟨_, rfl, yp, _, 0, _, rfl, rfl, hY, atI_nat (j := 0) rfl, rfl, _, rfl, iteF ?_⟩
      refine ⟨_, rfl, rfl, _, rfl, ?_⟩
      by_cases ez : k' * tot = 0
      · rw [decide_eq_true (show V.int (k' * tot) = V.int 0 by rw [ez])]
        refine iteT ⟨Nat.zero_le _, fun p2 np2 => ⟨by show 2 ≤ sizeLine; decide, fun t nt => ?_⟩⟩
        have s2 := same_upd (o := .lst []) np2
        have s3 := same_upd (o := .tup [.ref p2, .int 0]) nt
        refine q _ _ (s2.trans s3) ?_
        rw [show ofUnits tot (.lf b a k' c) = ([], 0) from if_pos ez]
        exact ⟨t, p2, [], rfl, s2.free nt, np2, upd_same, s3 _ _ upd_same, .nil⟩
      · rw [decide_eq_false (fun z => ez (V.int.inj z))]
        refine iteF ⟨_, rfl, _, rfl, yp, _, 4, _, rfl, rfl, hY, atI_nat (j := 4) rfl, by show 2 ≤ sizeLine; decide, fun g ng => ⟨by show 1 ≤ sizeLine; decide, fun p2 np2 => ⟨by show 2 ≤ sizeLine; decide, fun t nt => ?_⟩⟩⟩
        have s1 := same_upd (o := .tup [.int (k' * tot), .int c]) ng
        have s2 := same_upd (o := .lst [.ref g]) np2
        have s3 := same_upd (o := .tup [.ref p2, .int 0]) nt
        refine q _ _ ((s1.trans s2).trans s3) ?_
        rw [show ofUnits tot (.lf b a k' c) = ([(k' * tot, c)], 0) from if_neg ez]
        exact ⟨t, p2, [.ref g], rfl, (s1.trans s2).free nt, s1.free np2, upd_same, s3 _ _ upd_same, .cons ⟨g, rfl, s3 _ _ (s2 _ _ upd_same)⟩ .nil⟩
theorem ok_runAft {f fS fM fU fR : Addr} {fd fdS fdM fdU fdR : FuncData} {k : Nat} (F : Fun K "run_after" "run_after" sRunAft f fd)
    (GS : FnOk P w K mg base CX0 k fS fdS ["j", "wanted"] (spSigns K)) (kS : PySem.W.keepIn K (.ref fS) = true) (bS : Binds K fdS ["j", "wanted"] []) (gS : mg "signs_after" = some (.ref fS))
    (GM : FnOk P w K mg base CX0 k fM fdM ["groups"] (spMerged K)) (kM : PySem.W.keepIn K (.ref fM) = true) (bM : Binds K fdM ["groups"] []) (gM : mg "merged_groups" = some (.ref fM))
    (GU : FnOk P w K mg base CX0 k fU fdU ["run", "wanted"] (spUnits K)) (kU : PySem.W.keepIn K (.ref fU) = true) (bU : Binds K fdU ["run", "wanted"] []) (gU : mg "units" = some (.ref fU))
    (GR : FnOk P w K mg base CX0 k fR fdR ["total", "wanted"] (spRou K)) (kR : PySem.W.keepIn K (.ref fR) = true) (bR : Binds K fdR ["total", "wanted"] []) (gR : mg "run_of_units" = some (.ref fR)) :
    FnOk P w K mg base CX0 (k + 1) f fd ["run", "wanted"] (spRunAft K) := by
  refine F.ok scRunAft (fun vs H Q E h => ?_) (fun cdv A outer s H vs Q E hr h => ?_)
  · obtain ⟨x, l, r, y, f, n, rfl, _⟩ := h
    rfl
  · obtain ⟨_, l, r, y, f, n, rfl, ⟨p, rfl, hT, xs, hL, hP⟩, ⟨yp, rfl, hY⟩, hs, hf, hn0, hn, q⟩ := h
    refine ⟨_, pss_cons (ps_asg (pv 0) (pg_tup (by rfl) (pgs_cons (pg_name (i := 2) scRunAft.nd rfl (.inl rfl)) (pgs_cons (pg_name (i := 3) scRunAft.nd rfl (.inl rfl)) pgs_nil))))
      (pss_cons (ps_if (pt_cmpR op_eq (pe_ix ix_tup (pv 1) pe_int (fun _ _ => rfl)) pe_str (nomark _)) (pss_one (ps_ret (pe_tup (pa_cons (pe_call GM hr (by rfl) gM kM bM .nil pass0 (pa_cons (pe_lc (own := [("many", 4), ("j", 5)]) (g := gTup K 2 (gCons (gName 4) (gCons (gName 5) gNil))) (tt := tYes) rfl scRunAft.nd (pi_list (pv 2)) (blkOk_by (own := [("many", 4), ("j", 5)]) (N := nRunAft) (sc := defScope sRunAft) (by decide +kernel))
          (fun _ _ _ _ _ => pg_tup (by rfl) (pgs_cons (pg_name (i := 4) scRunAft.nd rfl (.inl rfl)) (pgs_cons (pg_name (i := 5) scRunAft.nd rfl (.inl rfl)) pgs_nil))) (fun _ _ _ _ _ => pts_nil)
          (fun _ _ _ _ _ => pe_tup (pa_cons (pv 4) (pa_cons (pe_call GS hr (by rfl) gS kS bS .nil pass0 (pa_cons (pv 5) (pa_cons (pv 1) pa_nil))) pa_nil)))) pa_nil)) (pa_cons (pv 3) pa_nil))))) pss_nil)
      (pss_one (ps_ret (pe_call GR hr (by rfl) gR kR bR .nil pass0 (pa_cons (pe_call GU hr (by rfl) gU kU bU .nil pass0 (pa_cons (pv 0) (pa_cons (pv 1) pa_nil))) (pa_cons (pv 1) pa_nil)))))), ?_⟩
    refine ⟨_, rfl, p, _, rfl, hT, rfl, _, _, rfl, _, _, rfl, rfl, ?_⟩
    refine ⟨_, rfl, yp, _, 0, _, rfl, rfl, hY, atI_nat (j := 0) f.vs0, rfl, _, rfl, ?_⟩
    have hu := units_ok hs hf
    cases f with
    | keep b a =>
      refine iteT ⟨_, rfl, l, rfl, ⟨_, hL⟩, fun D nD => ?_⟩
      refine lc_it (walk_list (xs := xs)) (fun i H' => Same H H' ∧ ∃ zs, H' D = some (.lst zs) ∧ Prs K H' zs (moved (.keep b a) (r.1.take i))) ⟨same_upd nD, [], upd_same, .nil⟩ (fun i H' _ hQ => hQ.1.seq hL) ?_ ?_
      · rintro i u H1 H2 hi ⟨sm, zs, hD, hz⟩ ⟨rfl, hu⟩
        obtain ⟨x, hx, ap, rfl, ha'⟩ := hP.get hu
        have ha : SqT K H ap [.int x.1, .int x.2] := .inl (.inl ha')
        refine ⟨ap, _, rfl, sameT sm ha, rfl, _, _, rfl, _, _, rfl, rfl, rfl, ?_⟩
        refine ⟨_, rfl, _, rfl, _, rfl, x.2, _, .keep b a, rfl, ⟨yp, rfl, sameT sm hY⟩, by show 2 ≤ sizeLine; decide, fun t nt => ?_⟩
        have s1 := same_upd (o := .tup [.int x.1, .int ((Fm.keep b a).after x.2)]) nt
        have hzl : zs.length ≤ 1000 := by
          have e1 := hz.len
          have e2 := hs.2.2.2
          unfold moved at e1
          rw [List.length_map, List.length_take] at e1
          omega
        refine ⟨zs, s1 _ _ hD, by rw [sizeLine_eq]; omega, Same.own (sm.trans s1) nD, _, upd_same, ?_⟩
        have e : moved (.keep b a) (r.1.take (i + 1)) = moved (.keep b a) (r.1.take i) ++ [(x.1, (Fm.keep b a).after x.2)] := by
          unfold moved
          rw [List.take_succ, hx, List.map_append]
          rfl
        rw [e]
        exact Prs.lstUpd (s1 _ _ hD) ((hz.same s1).append (.cons ⟨t, rfl, upd_same⟩ .nil))
      · rintro H1 ⟨sm, zs, hD, hz⟩
        rw [List.take_of_length_le (by rw [← hP.len]; exact Nat.le_refl _)] at hz
        have hml : (moved (.keep b a) r.1).length ≤ 1000 := by
          unfold moved
          rw [List.length_map]
          exact hs.2.2.2
        refine ⟨D, _, rfl, ⟨zs, .inl (.inl hD), hz⟩, hml, fun p2 H2 ws np2 s2 hp2 hw => ?_⟩
        refine ⟨_, rfl, by show 2 ≤ sizeLine; decide, fun t nt => ?_⟩
        have s3 := same_upd (o := .tup [.ref p2, .int r.2]) nt
        exact q _ _ ((sm.trans s2).trans s3) ⟨t, p2, ws, rfl, (sm.trans s2).free nt, sm.free np2, upd_same, s3 _ _ hp2, hw.same s3⟩
    | cr b a k' =>
      refine iteF ⟨_, rfl, _, rfl, _, l, r, _, .cr b a k', n, rfl, ⟨p, rfl, hT, xs, hL, hP⟩, ⟨yp, rfl, hY⟩, hs, hf, hn, fun H1 sm => ?_⟩
      refine ⟨_, rfl, _, _, .cr b a k', n, rfl, ⟨yp, rfl, sameT sm hY⟩, rfl, hf, hu.2, hn0, hn, fun v H2 s2 hv => q v H2 (sm.trans s2) (NewRn.back sm hv)⟩
    | lf b a k' c =>
      refine iteF ⟨_, rfl, _, rfl, _, l, r, _, .lf b a k' c, n, rfl, ⟨p, rfl, hT, xs, hL, hP⟩, ⟨yp, rfl, hY⟩, hs, hf, hn, fun H1 sm => ?_⟩
      refine ⟨_, rfl, _, _, .lf b a k' c, n, rfl, ⟨yp, rfl, sameT sm hY⟩, rfl, hf, hu.2, hn0, hn, fun v H2 s2 hv => q v H2 (sm.trans s2) (NewRn.back sm hv)⟩
end
end Lw
namespace Lw
open PySem PySem.Spec L2 Lx
theorem scConv : FnScope ["run", "chain"] ["run", "chain"] (defScope sConv) := ⟨rfl, rfl, rfl, by decide +kernel, rfl, by decide +kernel, by decide +kernel⟩
theorem scSize : FnScope ["run"] ["run"] (defScope sSize) := ⟨rfl, rfl, rfl, by decide +kernel, rfl, by decide +kernel, by decide +kernel⟩
def spConv (K : PySem.W.Frag) : Sp := fun vs H Q _ => ∃ x l r c n, vs = [x, .str c] ∧ RnAt K H x l r ∧ RnOk n r ∧ ChOk c ∧ c.cps.size ≤ 7000 ∧ n ≤ 100000 ∧ ∀ v H', Same H H' → NewRn K H H' v (runAfter r (formOf c)) → Q v H'
def spSize (K : PySem.W.Frag) : Sp := fun vs H Q _ => ∃ x l r n, vs = [x] ∧ RnAt K H x l r ∧ RnOk n r ∧ n ≤ 100000 ∧ ∀ H', Same H H' → Q (.int (units r nothing)) H'
section
variable {P : Program} {w : World} {K : PySem.W.Frag} {mg : Str → Option Value} {base : Heap} {aN aS : Addr}
theorem ok_conv {f fC fO fR fF : Addr} {fd fdC fdO fdR fdF : FuncData} {k : Nat} (F : Fun K "convert_run" "convert_run" sConv f fd)
    (GC : FnOk P w K mg base CX0 k fC fdC ["run"] (spChkRun K)) (kC : PySem.W.keepIn K (.ref fC) = true) (bC : Binds K fdC ["run"] []) (gC : mg "check_run" = some (.ref fC))
    (GO : FnOk P w K mg base CX0 k fO fdO ["chain"] spChkChain) (kO : PySem.W.keepIn K (.ref fO) = true) (bO : Binds K fdO ["chain"] []) (gO : mg "check_chain" = some (.ref fO))
    (GF : FnOk P w K mg base CX0 k fF fdF ["chain"] (spFoc K)) (kF : PySem.W.keepIn K (.ref fF) = true) (bF : Binds K fdF ["chain"] []) (gF : mg "form_of_chain" = some (.ref fF))
    (GR : FnOk P w K mg base CX0 k fR fdR ["run", "wanted"] (spRunAft K)) (kR : PySem.W.keepIn K (.ref fR) = true) (bR : Binds K fdR ["run", "wanted"] []) (gR : mg "run_after" = some (.ref fR)) :
    FnOk P w K mg base CX0 (k + 1) f fd ["run", "chain"] (spConv K) := by
  refine F.ok scConv (fun vs H Q E h => ?_) (fun cdv A outer s H vs Q E hr h => ?_)
  · obtain ⟨x, l, r, c, n, rfl, _⟩ := h
    rfl
  · obtain ⟨x, l, r, c, n, rfl, hR, ho, hx, hsz, hn, q⟩ := h
    refine ⟨_, pss_cons (ps_expr (pe_call GC hr (by rfl) gC kC bC .nil pass0 (pa_cons (pv 0) pa_nil))) (pss_cons (ps_expr (pe_call GO hr (by rfl) gO kO bO .nil pass0 (pa_cons (pv 1) pa_nil)))
      (pss_one (ps_ret (pe_call GR hr (by rfl) gR kR bR .nil pass0 (pa_cons (pv 0) (pa_cons (pe_call GF hr (by rfl) gF kF bF .nil pass0 (pa_cons (pv 1) pa_nil)) pa_nil)))))), ?_⟩
    refine ⟨_, rfl, x, l, r, n, rfl, hR, ho, fun H1 s1 => ⟨_, rfl, c, rfl, hx, fun H2 s2 => ⟨_, rfl, _, rfl, c, rfl, hx, hsz, fun y H3 s3 hy hl => ?_⟩⟩⟩
    have s := (s1.trans s2).trans s3
    exact ⟨x, l, r, y, formOf c, max n (13 * c.cps.size + 1), rfl, hR.same s, hy, RnSm.mono (RnOk.sm ho) (Nat.le_max_left ..), hl.ok.mono (Nat.le_max_right ..), by omega, by omega, fun v H4 s4 hv => q v H4 (s.trans s4) (hv.back s)⟩
theorem ok_size {f fC fU : Addr} {fd fdC fdU : FuncData} {k : Nat} (F : Fun K "size" "size" sSize f fd) (T : StepT K w mg aN aS)
    (GC : FnOk P w K mg base CX0 k fC fdC ["run"] (spChkRun K)) (kC : PySem.W.keepIn K (.ref fC) = true) (bC : Binds K fdC ["run"] []) (gC : mg "check_run" = some (.ref fC))
    (GU : FnOk P w K mg base CX0 k fU fdU ["run", "wanted"] (spUnits K)) (kU : PySem.W.keepIn K (.ref fU) = true) (bU : Binds K fdU ["run", "wanted"] []) (gU : mg "units" = some (.ref fU)) :
    FnOk P w K mg base CX0 (k + 1) f fd ["run"] (spSize K) := by
  refine F.ok scSize (fun vs H Q E h => ?_) (fun cdv A outer s H vs Q E hr h => ?_)
  · obtain ⟨x, l, r, n, rfl, _⟩ := h
    rfl
  · obtain ⟨x, l, r, n, rfl, hR, ho, hn, q⟩ := h
    refine ⟨_, pss_cons (ps_expr (pe_call GC hr (by rfl) gC kC bC .nil pass0 (pa_cons (pv 0) pa_nil)))
      (pss_one (ps_ret (pe_call GU hr (by rfl) gU kU bU .nil pass0 (pa_cons (pv 0) (pa_cons (pe_glob (v := .ref aN) rfl T.gN rfl) pa_nil))))), ?_⟩
    exact ⟨_, rfl, x, l, r, n, rfl, hR, ho, fun H1 s1 => ⟨_, rfl, x, l, r, _, nothing, n, rfl, hR.same s1, T.n H1, (RnOk.sm ho), ⟨by decide, by decide, Nat.two_pow_pos n, Nat.two_pow_pos n⟩, hn, fun H2 s2 => q H2 (s1.trans s2)⟩⟩
end
end Lw
namespace Lw
open PySem PySem.Spec L2 Lx
/-! ### the drawing list -/
def RngAt (H : Hp) (r : Addr) (n : Nat) : Prop := ∃ d s c : Int, H r = some (.lst [.int d, .int s, .int c]) ∧ 0 ≤ d ∧ 0 ≤ s ∧ s < 2305843009213693952 ∧ 0 ≤ c ∧ c ≤ n
def But (r : Addr) (H H' : Hp) : Prop := ∀ b, b ≠ r → H' b = H b
theorem But.upd {H : Hp} {r : Addr} {o : HO} : But r H (upd H r o) := fun b h => upd_ne h
theorem But.trans {H H1 H2 : Hp} {r : Addr} (a : But r H H1) (b : But r H1 H2) : But r H H2 := fun c h => (b c h).trans (a c h)
theorem pow10 : (10 : Int) ^ (60 : Int).toNat = 1000000000000000000000000000000000000000000000000000000000000 := by decide +kernel
theorem n60 : (10 : Int) ^ Int.toNat 60 ≠ 0 := by decide +kernel
theorem n_c : (2305843009213693921 : Int) ≠ 0 := by decide
theorem n_m : (2305843009213693951 : Int) ≠ 0 := by decide
abbrev B60 : Int := 1000000000000000000000000000000000000000000000000000000000000
theorem dig_more {d f : Int} {i : Nat} (h : d < B60 ^ i) (hf : f < B60) : d * B60 + f < B60 ^ (i + 1) := by
  have h1 : (d + 1) * B60 ≤ B60 ^ i * B60 := Int.mul_le_mul_of_nonneg_right (by omega) (by decide)
  rw [Int.add_mul, Int.one_mul] at h1
  rw [Int.pow_succ]
  omega
theorem dig_keep {d : Int} {i : Nat} (h : d < B60 ^ i) : d < B60 ^ (i + 1) := by
  have h1 : (0 : Int) < B60 ^ i := Int.pow_pos (by decide)
  have h2 : B60 ^ i * 1 ≤ B60 ^ i * B60 := Int.mul_le_mul_of_nonneg_left (by decide) (by omega)
  rw [Int.pow_succ]
  omega
theorem B60_mono (i : Nat) : ∀ n : Nat, B60 ^ i ≤ B60 ^ (i + n)
  | 0 => Int.le_refl _
  | n + 1 => by
    have h1 := B60_mono i n
    have h2 : (0 : Int) < B60 ^ (i + n) := Int.pow_pos (by decide)
    have h3 : B60 ^ (i + n) * 1 ≤ B60 ^ (i + n) * B60 := Int.mul_le_mul_of_nonneg_left (by decide) (by omega)
    rw [← Nat.add_assoc, Int.pow_succ]
    omega
theorem dig_small {d : Int} {i : Nat} (h0 : 0 ≤ d) (h : d < B60 ^ i) (hi : i ≤ 63) : d.natAbs < 2 ^ 12700 := by
  have h1 : B60 ^ i ≤ B60 ^ 63 := by
    have e := B60_mono i (63 - i)
    rw [Nat.add_sub_cancel' hi] at e
    exact e
  have h2 : B60 ^ 63 < 2 ^ 12700 := by decide +kernel
  have h3 : (d.natAbs : Int) < ((2 ^ 12700 : Nat) : Int) := by
    rw [Int.natAbs_of_nonneg h0]
    exact Int.lt_of_lt_of_le h (Int.le_trans h1 (Int.le_of_lt (by rw [Int.natCast_pow]; exact h2)))
  exact Int.ofNat_lt.mp h3
def spRng (K : PySem.W.Frag) : Sp := fun vs H Q _ => ∃ (a : Addr) (ns : List Int), vs = [.ref a] ∧ SqL K H a (ns.map V.int) ∧ ns.length ≤ 63 ∧ ∀ H' p, Same H H' → H p = none → RngAt H' p 0 → Q (.ref p) H'
def spDraw : Sp := fun vs H Q _ => ∃ (r : Addr) (n : Nat) (m : Int), vs = [.ref r, .int m] ∧ RngAt H r n ∧ n < 1000000000 ∧ 0 < m ∧ m.natAbs < 2 ^ 4000 ∧ ∀ v H', 0 ≤ v → v < m → RngAt H' r (n + 1) → But r H H' → Q (.int v) H'
theorem scRng : FnScope ["script", "digits", "seed", "cell", "far"] ["script"] (defScope sLRng) := ⟨rfl, rfl, rfl, by decide +kernel, rfl, by decide +kernel, by decide +kernel⟩
theorem scDraw : FnScope ["rng", "limit", "found", "mixed"] ["rng", "limit"] (defScope sLDraw) := ⟨rfl, rfl, rfl, by decide +kernel, rfl, by decide +kernel, by decide +kernel⟩
section
variable {P : Program} {w : World} {K : PySem.W.Frag} {mg : Str → Option Value} {base : Heap}
theorem ok_rng {f : Addr} {fd : FuncData} {k : Nat} (F : Fun K "_law_rng" "_law_rng" sLRng f fd) (mAbs : mg "abs" = none) : FnOk P w K mg base CX0 (k + 1) f fd ["script"] (spRng K) := by
  refine F.ok scRng (fun vs H Q E h => ?_) (fun cdv A outer s H vs Q E hr h => ?_)
  · obtain ⟨a, ns, rfl, _⟩ := h
    rfl
  · obtain ⟨a, ns, rfl, hS, hlen, q⟩ := h
    refine ⟨_, pss_cons (ps_asg (pe_tup (pa_cons pe_int (pa_cons pe_int pa_nil))) (pg_tup (by rfl) (pgs_cons (pg_name (i := 1) scRng.nd rfl (.inl rfl)) (pgs_cons (pg_name (i := 2) scRng.nd rfl (.inl rfl)) pgs_nil))))
      (pss_cons (ps_for PassesOwn.never rfl (pi_list (pe_slice sl_list (pv 0) po_none (po_some pe_int))) (pg_name (i := 3) scRng.nd rfl (.inl rfl))
        (pss_cons (ps_set (i := 4) scRng.nd rfl (.inl rfl) (pe_callB call_abs (by rfl) mAbs (by decide +kernel) (pa_cons (pv 3) pa_nil)))
        (pss_cons (ps_if (pt_cmpR op_ge (pv 4) (pe_op op_pow pe_int pe_int) (nomark _)) (pss_one (ps_set (i := 1) scRng.nd rfl (.inl rfl) (pe_op op_add (pe_op op_mulW (pv 1) (pe_op op_pow pe_int pe_int)) (pe_op op_modN (pv 4) (pe_op op_pow pe_int pe_int))))) pss_nil)
        (pss_one (ps_set (i := 2) scRng.nd rfl (.inl rfl) (pe_op op_modN (pe_op op_add (pe_op op_add (pe_op op_mul (pv 2) pe_int) (pe_op op_modN (pv 3) pe_int)) pe_int) pe_int))))))
      (pss_one (ps_ret (pe_lst (pa_cons (pv 1) (pa_cons (pv 2) (pa_cons pe_int pa_nil))))))), ?_⟩
    refine ⟨by show 2 ≤ sizeLine; decide, fun p0 np0 => ?_⟩
    refine ⟨p0, _, rfl, .inl (.inl upd_same), rfl, _, _, rfl, _, _, rfl, rfl, ?_⟩
    have s0 : Same H (upd H p0 (.tup [.int 0, .int 88675123])) := same_upd np0
    refine ⟨.ref a, rfl, 63, rfl, a, _, rfl, s0.seq hS, fun p np => ?_⟩
    have s1 := s0.trans (same_upd (o := .lst (cutV (ns.map V.int) none (some 63))) np)
    have hall : ∀ (i : Nat) x, (cutV (ns.map V.int) none (some 63))[i]? = some x → ∃ z : Int, x = .int z := fun i x hx => by
      have m1 := List.mem_of_getElem? hx
      unfold cutV at m1
      have m2 := List.mem_of_mem_drop (List.mem_of_mem_take m1)
      obtain ⟨z, _, e⟩ := List.mem_map.mp m2
      exact ⟨z, e.symm⟩
    have hcl : (cutV (ns.map V.int) none (some 63)).length ≤ 63 := Nat.le_trans (cutV_length _ _ _) (by rw [List.length_map]; exact hlen)
    refine ⟨p, rfl, ⟨_, .inl (.inl upd_same)⟩, for_list (K := K) (a := p) (xs := cutV (ns.map V.int) none (some 63)) (fun i σ H' => H' = upd (upd H p0 (.tup [.int 0, .int 88675123])) p (.lst (cutV (ns.map V.int) none (some 63))) ∧
      ∃ (d s' : Int) (y3 y4 : Option V), σ = [some (.ref a), some (.int d), some (.int s'), y3, y4] ∧ 0 ≤ d ∧ d < B60 ^ i ∧ 0 ≤ s' ∧ s' < 2305843009213693951)
      ⟨rfl, 0, 88675123, none, none, rfl, by decide, by decide, by decide, by decide⟩ (fun i σ H' _ hP => by rw [hP.1]; exact .inl (.inl upd_same)) ?_ ?_⟩
    · rintro i x σ H' hi ⟨rfl, d, s', y3, y4, rfl, hd0, hd, hs0, hs1⟩
      obtain ⟨z, rfl⟩ := hall i x hi
      have hil : i < 63 := Nat.lt_of_lt_of_le (List.getElem?_eq_some_iff.mp hi).1 hcl
      refine ⟨.int z, rfl, z, rfl, ?_⟩
      refine ⟨_, rfl, _, _, rfl, rfl, ⟨by decide, by decide, by decide⟩, _, _, rfl, rfl, _, rfl, ite2 (fun c => ?_) (fun c => ?_)⟩
      · refine ⟨_, rfl, _, _, rfl, rfl, ⟨by decide, by decide, by decide⟩, _, _, rfl, rfl, ?_, ?_⟩
        · exact wide_mul (a := 12700) (b := 200) (dig_small hd0 hd (by omega)) (by decide) (by decide) (by decide) (by decide)
        · refine ⟨_, rfl, _, _, rfl, rfl, ⟨by decide, by decide, by decide⟩, _, _, rfl, rfl, n60, _, _, rfl, rfl, ?_⟩
          have f1 := fm (a := if z < 0 then -z else z) (show (0 : Int) < B60 by decide)
          refine ⟨_, rfl, _, _, rfl, rfl, .inl ⟨by omega, by omega⟩, _, rfl, _, _, rfl, rfl, n_c, _, _, rfl, rfl, _, _, rfl, rfl, _, _, rfl, rfl, n_m, rfl, d * B60 + (if z < 0 then -z else z).fmod B60, _, _, _, rfl, ?_, dig_more hd f1.2, ?_⟩
          · have := Int.mul_nonneg hd0 (show (0 : Int) ≤ B60 by decide)
            omega
          · exact fm (by decide)
      · refine ⟨_, rfl, _, _, rfl, rfl, .inl ⟨by omega, by omega⟩, _, rfl, _, _, rfl, rfl, n_c, _, _, rfl, rfl, _, _, rfl, rfl, _, _, rfl, rfl, n_m, rfl, d, _, _, _, rfl, hd0, dig_keep hd, ?_⟩
        exact fm (by decide)
    · rintro σ H' ⟨rfl, d, s', y3, y4, rfl, hd0, hd, hs0, hs1⟩
      refine ⟨_, rfl, _, rfl, (by show 3 ≤ sizeLine; decide), fun l nl => ?_⟩
      exact q _ l (s1.trans (same_upd nl)) (s1.free nl) ⟨d, s', 0, upd_same, hd0, hs0, by omega, by decide, by decide⟩
end
section
variable {P : Program} {w : World} {K : PySem.W.Frag} {mg : Str → Option Value} {base : Heap}
theorem n_p1 : (162259276829213363391578010288127 : Int) ≠ 0 := by decide
theorem n_p2 : (170141183460469231731687303715884105727 : Int) ≠ 0 := by decide
theorem pow_ok {x : Int} (h0 : 0 ≤ x) (h : x < 2 ^ 200) : CPowW x 3 := ⟨by decide, by decide, by
  have h1 : (x.natAbs : Int) < ((2 ^ 200 : Nat) : Int) := by
    rw [Int.natAbs_of_nonneg h0]
    exact h
  exact Nat.lt_of_lt_of_le (Int.ofNat_lt.mp h1) (Nat.pow_le_pow_right (by decide) (by decide))⟩
theorem ok_draw {f : Addr} {fd : FuncData} {k : Nat} (F : Fun K "_law_draw" "_law_draw" sLDraw f fd) : FnOk P w K mg base CX0 (k + 1) f fd ["rng", "limit"] spDraw := by
  refine F.ok scDraw (fun vs H Q E h => ?_) (fun cdv A outer s H vs Q E hr h => ?_)
  · obtain ⟨r, n, m, rfl, _⟩ := h
    rfl
  · obtain ⟨r, n, m, rfl, ⟨d, s', c, hL, hd, hs0, hs1, hc0, hc1⟩, hn, hm0, hm1, q⟩ := h
    refine ⟨_, pss_cons (ps_if (pt_cmpR op_gt (pe_ix ix_list (pv 0) pe_int (fun _ _ => rfl)) pe_int (nomark _))
        (pss_cons (ps_set (i := 2) scDraw.nd rfl (.inl rfl) (pe_op op_modN (pe_ix ix_list (pv 0) pe_int (fun _ _ => rfl)) (pv 1)))
        (pss_cons (ps_asg (pe_op op_fdivW (pe_ix ix_list (pv 0) pe_int (fun _ _ => rfl)) (pv 1)) (pg_sub (pv 0) pe_int set_list))
        (pss_one (ps_ret (pv 2))))) pss_nil)
      (pss_cons (ps_asg (pe_op op_add (pe_ix ix_list (pv 0) pe_int (fun _ _ => rfl)) pe_int) (pg_sub (pv 0) pe_int set_list))
      (pss_cons (ps_set (i := 3) scDraw.nd rfl (.inl rfl) (pe_op op_modN (pe_op op_powW (pe_op op_add (pe_ix ix_list (pv 0) pe_int (fun _ _ => rfl)) (pe_op op_mul pe_int (pe_ix ix_list (pv 0) pe_int (fun _ _ => rfl)))) pe_int) pe_int))
      (pss_cons (ps_set (i := 3) scDraw.nd rfl (.inl rfl) (pe_op op_modN (pe_op op_powW (pe_op op_add (pv 3) (pe_op op_mul pe_int (pe_ix ix_list (pv 0) pe_int (fun _ _ => rfl)))) pe_int) pe_int))
      (pss_one (ps_ret (pe_op op_modN (pe_op op_fdiv (pv 3) pe_int) (pv 1))))))), ?_⟩
    have hmn : m ≠ 0 := by omega
    refine ⟨_, rfl, r, _, 0, .int d, rfl, rfl, .inl (.inl hL), atI_nat (j := 0) rfl, _, _, rfl, rfl, _, rfl, ite2 (fun z => ?_) (fun z => ?_)⟩
    · refine ⟨_, rfl, r, _, 0, .int d, rfl, rfl, .inl (.inl hL), atI_nat (j := 0) rfl, _, rfl, _, _, rfl, rfl, hmn, ?_⟩
      refine ⟨_, rfl, r, _, 0, .int d, rfl, rfl, .inl (.inl hL), atI_nat (j := 0) rfl, _, rfl, _, _, rfl, rfl, wide_div hm0 hm1 (by decide) (by decide), ?_⟩
      refine ⟨_, rfl, r, _, 0, 0, rfl, rfl, hL, rfl, ?_⟩
      refine ⟨_, rfl, ?_⟩
      have f1 := fm (a := d) hm0
      exact q _ _ f1.1 f1.2 ⟨d / m, s', c, upd_same, Int.ediv_nonneg hd (by omega), hs0, hs1, hc0, by omega⟩ But.upd
    · refine ⟨_, rfl, r, _, 2, .int c, rfl, rfl, .inl (.inl hL), atI_nat (j := 2) rfl, _, _, rfl, rfl, ?_⟩
      refine ⟨_, rfl, r, _, 2, 2, rfl, rfl, hL, rfl, ?_⟩
      have hL2 : upd H r (.lst ([V.int d, .int s', .int c].set 2 (.int (c + 1)))) r = some (.lst [.int d, .int s', .int (c + 1)]) := upd_same
      refine ⟨_, rfl, r, _, 1, .int s', rfl, rfl, .inl (.inl hL2), atI_nat (j := 1) rfl, _, rfl, r, _, 2, .int (c + 1), rfl, rfl, .inl (.inl hL2), atI_nat (j := 2) rfl, _, _, rfl, rfl, .inl ⟨by decide, by decide⟩, _, _, rfl, rfl, ?_⟩
      refine ⟨_, _, rfl, rfl, pow_ok (by omega) (by omega), _, _, rfl, rfl, n_p1, ?_⟩
      have f1 := fm (a := (s' + 998244353 * (c + 1)) ^ Int.toNat 3) (show (0 : Int) < 162259276829213363391578010288127 by decide)
      refine ⟨_, rfl, _, rfl, r, _, 2, .int (c + 1), rfl, rfl, .inl (.inl hL2), atI_nat (j := 2) rfl, _, _, rfl, rfl, .inl ⟨by decide, by decide⟩, _, _, rfl, rfl, _, _, rfl, rfl, pow_ok (by omega) (by omega), _, _, rfl, rfl, n_p2, ?_⟩
      refine ⟨_, rfl, _, _, rfl, rfl, ⟨by decide, by decide⟩, _, rfl, _, _, rfl, rfl, hmn, ?_⟩
      have f2 := fm (a := ((s' + 998244353 * (c + 1)) ^ Int.toNat 3 |>.fmod 162259276829213363391578010288127) + 32452843 * (c + 1) |> fun x => (x ^ Int.toNat 3).fmod 170141183460469231731687303715884105727 / 1048576) hm0
      exact q _ _ f2.1 f2.2 ⟨d, s', c + 1, hL2, hd, hs0, hs1, by omega, by omega⟩ But.upd
end

/-! ### what stays beside the drawing list -/
def Kq (r : Addr) (H H' : Hp) : Prop := ∀ b o, b ≠ r → H b = some o → H' b = some o
theorem Kq.refl (r : Addr) (H : Hp) : Kq r H H := fun _ _ _ h => h
theorem Kq.trans {r : Addr} {H H1 H2 : Hp} (a : Kq r H H1) (b : Kq r H1 H2) : Kq r H H2 := fun c o h1 h => b c o h1 (a c o h1 h)
theorem Kq.of {r : Addr} {H H' : Hp} (s : Same H H') : Kq r H H' := fun b o _ h => s b o h
theorem But.kq {r : Addr} {H H' : Hp} (s : But r H H') : Kq r H H' := fun b o n h => by rw [s b n]; exact h
theorem RngAt.same {H H' : Hp} {r : Addr} {n : Nat} (s : Same H H') : RngAt H r n → RngAt H' r n := fun ⟨d, a, c, h1, h2⟩ => ⟨d, a, c, s _ _ h1, h2⟩
theorem RngAt.mono {H : Hp} {r : Addr} {n m : Nat} (k : n ≤ m) : RngAt H r n → RngAt H r m := fun ⟨d, a, c, h1, h2, h3, h4, h5, h6⟩ => ⟨d, a, c, h1, h2, h3, h4, h5, by omega⟩
theorem RngAt.ne {H : Hp} {r p : Addr} {n : Nat} (s : RngAt H r n) (h : H p = none) : p ≠ r := by
  obtain ⟨_, _, _, q1, _⟩ := s
  exact Ne.symm (ne_of_none q1 h)
theorem RngAt.neT {H : Hp} {r p : Addr} {n : Nat} {xs : List V} (s : RngAt H r n) (h : H p = some (.tup xs)) : p ≠ r := by
  obtain ⟨_, _, _, q1, _⟩ := s
  exact ne_of h q1 (by intro z; cases z)
theorem Kq.free {r : Addr} {H H' : Hp} {n : Nat} (k : Kq r H H') (s : RngAt H' r n) {p : Addr} (h : H' p = none) : H p = none := by
  cases e : H p with
  | none => rfl
  | some o =>
    have := k p o (s.ne h) e
    rw [h] at this
    cases this
theorem Kq.own {r p : Addr} {H H' : Hp} {o : HO} (k : Kq r H H') (h : H p = none) : Kq r H (upd H' p o) := fun b u h1 e => by
  rw [upd_ne (ne_of_none e h)]
  exact k b u h1 e
theorem RngAt.own {H : Hp} {r p : Addr} {n : Nat} {o : HO} (s : RngAt H r n) (ne : p ≠ r) : RngAt (upd H p o) r n := by
  obtain ⟨d, a, c, h1, h2⟩ := s
  exact ⟨d, a, c, by rw [upd_ne (Ne.symm ne)]; exact h1, h2⟩
theorem Prs.kq {K : PySem.W.Frag} {H H' : Hp} {r : Addr} {n : Nat} (s : RngAt H r n) (k : Kq r H H') : ∀ {vs : List V} {gs : List (Int × Int)}, Prs K H vs gs → Prs K H' vs gs
  | _, _, .nil => .nil
  | _, _, .cons ⟨p, e, h⟩ t => .cons ⟨p, e, k _ _ (s.neT h) h⟩ (Prs.kq s k t)
theorem RnS.kq {K : PySem.W.Frag} {H H' : Hp} {v : V} {l r : Addr} {n : Nat} {g : List (Int × Int) × Int} (s : RngAt H r n) (k : Kq r H H') (ne : l ≠ r) : RnS K H v l g → RnS K H' v l g :=
  fun ⟨p, xs, h1, h2, h3, h4⟩ => ⟨p, xs, h1, k _ _ (s.neT h2) h2, k _ _ ne h3, Prs.kq s k h4⟩
end Lw
namespace Lx
open PySem PySem.Spec L2
/-! ### data that repr can write -/
/-- ints below 2 ^ 400, texts of plain signs -/
def smallB (b : Nat) : PyData → Bool
  | .none | .bool _ => true
  | .int i => decide (i.natAbs < 2 ^ b)
  | .str x => x.cps.toList.all fun c => decide (c < 128)
  | .list xs | .tuple xs => smallAll xs
  | .dict _ => false
where smallAll : List PyData → Bool
  | [] => true
  | x :: xs => smallB b x && smallAll xs
theorem intB_log {b : Nat} (h0 : 0 < b) {i : Int} (h : i.natAbs < 2 ^ b) : i.natAbs.log2 < b := PySem.Flt.log2_lt_of h0 h
theorem intB_shown {b : Nat} (h0 : 0 < b) {i : Int} (h : i.natAbs < 2 ^ b) : (PyData.shown (.int i)).length ≤ b + 1 := by
  have e := int_text_length_le (k := b) h0 (intB_log h0 h)
  show (Str.ofString (toString i)).length ≤ b + 1
  rw [ofString_length]
  omega
mutual
theorem smallB_can {b : Nat} (h0 : 0 < b) (h1 : b ≤ 1900) : ∀ d : PyData, smallB b d = true → d.showable = true
  | .none, _ => rfl
  | .bool _, _ => rfl
  | .int i, h => by
    have e := intB_log h0 (of_decide_eq_true (show decide (i.natAbs < 2 ^ b) = true by simpa only [smallB] using h))
    simp only [PyData.showable]
    exact decide_eq_true (by omega)
  | .str _, _ => rfl
  | .list xs, h => by
    simp only [PyData.showable]
    exact smallB_canAll h0 h1 xs (by simpa only [smallB] using h)
  | .tuple xs, h => by
    simp only [PyData.showable]
    exact smallB_canAll h0 h1 xs (by simpa only [smallB] using h)
  | .dict _, h => by simp [smallB] at h
theorem smallB_canAll {b : Nat} (h0 : 0 < b) (h1 : b ≤ 1900) : ∀ xs : List PyData, smallB.smallAll b xs = true → PyData.showableAll xs = true
  | [], _ => rfl
  | x :: xs, h => by
    have h' : smallB b x = true ∧ smallB.smallAll b xs = true := by simpa only [smallB.smallAll, Bool.and_eq_true] using h
    simp only [PyData.showableAll, Bool.and_eq_true]
    exact ⟨smallB_can h0 h1 x h'.1, smallB_canAll h0 h1 xs h'.2⟩
end
mutual
theorem smallB_no {b : Nat} : ∀ d : PyData, smallB b d = true → d.hasDict = false
  | .none, _ => rfl
  | .bool _, _ => rfl
  | .int i, h => rfl
  | .str _, _ => rfl
  | .list xs, h => by
    simp only [PyData.hasDict]
    exact smallB_noAll xs (by simpa only [smallB] using h)
  | .tuple xs, h => by
    simp only [PyData.hasDict]
    exact smallB_noAll xs (by simpa only [smallB] using h)
  | .dict _, h => by simp [smallB] at h
theorem smallB_noAll {b : Nat} : ∀ xs : List PyData, smallB.smallAll b xs = true → PyData.hasDictAll xs = false
  | [], _ => rfl
  | x :: xs, h => by
    have h' : smallB b x = true ∧ smallB.smallAll b xs = true := by simpa only [smallB.smallAll, Bool.and_eq_true] using h
    simp only [PyData.hasDictAll, Bool.or_eq_false_iff]
    exact ⟨smallB_no x h'.1, smallB_noAll xs h'.2⟩
end
mutual
theorem smallB_leaves {b : Nat} (h0 : 0 < b) (h8 : 8 ≤ b) : ∀ d : PyData, smallB b d = true → d.leavesShort (b + 1) = true
  | .none, _ => rfl
  | .bool _, _ => rfl
  | .int i, h => by
    have e := intB_shown h0 (of_decide_eq_true (show decide (i.natAbs < 2 ^ b) = true by simpa only [smallB] using h))
    simp only [PyData.leavesShort]
    exact decide_eq_true e
  | .str x, h => by
    simp only [PyData.leavesShort, List.all_eq_true, decide_eq_true_eq]
    simp only [smallB, List.all_eq_true, decide_eq_true_eq] at h
    intro c hc
    exact Nat.lt_of_lt_of_le (h c hc) (by decide)
  | .list xs, h => by
    simp only [PyData.leavesShort]
    exact smallB_leavesAll h0 h8 xs (by simpa only [smallB] using h)
  | .tuple xs, h => by
    simp only [PyData.leavesShort]
    exact smallB_leavesAll h0 h8 xs (by simpa only [smallB] using h)
  | .dict _, h => by simp [smallB] at h
theorem smallB_leavesAll {b : Nat} (h0 : 0 < b) (h8 : 8 ≤ b) : ∀ xs : List PyData, smallB.smallAll b xs = true → PyData.leavesShortAll (b + 1) xs = true
  | [], _ => rfl
  | x :: xs, h => by
    have h' : smallB b x = true ∧ smallB.smallAll b xs = true := by simpa only [smallB.smallAll, Bool.and_eq_true] using h
    simp only [PyData.leavesShortAll, Bool.and_eq_true]
    exact ⟨smallB_leaves h0 h8 x h'.1, smallB_leavesAll h0 h8 xs h'.2⟩
end
theorem fit_b {b : Nat} {d : PyData} (h8 : 8 ≤ b) (h1 : b ≤ 1900) (h : smallB b d = true) (hd : d.depth ≤ 40) (hb : (b + 3) * d.bulk + (b + 1) ≤ 16777216) : Fit d := by
  refine ⟨smallB_can (by omega) h1 d h, smallB_no d h, hd, ?_⟩
  have e := PyData.shown_le_bulk (b + 1) (by omega) d (smallB_leaves (by omega) h8 d h)
  rw [sizeLine_eq]
  have e2 : (b + 1 + 2) * d.bulk = (b + 3) * d.bulk := rfl
  omega
end Lx
namespace Lw
open PySem PySem.Spec L2 Lx
/-! ### a chain step by step -/
def stepsL (r : List (Int × Int) × Int) (cs : List Nat) : List (Int × Int) × Int := cs.foldl (fun y c => runAfter y (stepF c)) r
theorem stepsL_snoc (r : List (Int × Int) × Int) (cs : List Nat) (c : Nat) : stepsL r (cs ++ [c]) = runAfter (stepsL r cs) (stepF c) := by
  unfold stepsL
  rw [List.foldl_append]
  rfl
theorem stepsL_append (r : List (Int × Int) × Int) (a b : List Nat) : stepsL r (a ++ b) = stepsL (stepsL r a) b := by
  unfold stepsL
  rw [List.foldl_append]
theorem formL_snoc (cs : List Nat) (c : Nat) : formL (cs ++ [c]) = (formL cs).both (stepF c) := by
  unfold formL
  rw [List.foldl_append]
  rfl
theorem merged_ok {n : Nat} (k : Nat) : ∀ gs : List (Int × Int), gs.length = k → GsOk n gs → Lx.merged gs = gs := by
  induction k with
  | zero =>
    intro gs h _
    rw [List.eq_nil_of_length_eq_zero h]
    rfl
  | succ k ih =>
    intro gs h hg
    rcases snoc_or gs with rfl | ⟨a, y, rfl⟩
    · rfl
    · obtain ⟨h1, h2, _⟩ := gsok_front hg
      rw [merged_snoc, ih a (by simpa using h) h1]
      rcases snoc_or a with rfl | ⟨b, z, rfl⟩
      · rfl
      · rw [addTo_snoc, if_neg (h2 b z rfl)]
theorem after_nothing {j : Int} (h : 0 ≤ j) : nothing.after j = j := by
  show (if j - 0 > 0 then j - 0 else 0) + 0 = j
  have := pp (j - 0)
  omega
theorem moved_nothing {gs : List (Int × Int)} (h : ∀ x ∈ gs, 0 ≤ x.2) : moved nothing gs = gs := by
  unfold moved
  induction gs with
  | nil => rfl
  | cons g gs ih =>
    rw [List.map_cons, ih fun x hx => h x (List.mem_cons_of_mem _ hx), after_nothing (h g (List.mem_cons_self ..))]
theorem runAfter_nothing {n : Nat} {r : List (Int × Int) × Int} (h : RnOk n r) : runAfter r nothing = r := by
  show (Lx.merged (moved nothing r.1), r.2) = r
  rw [moved_nothing (fun x hx => ((RnOk.sm h).1 x hx).2.1), merged_ok _ r.1 rfl h.gs]
theorem conv_form {n : Nat} {r : List (Int × Int) × Int} (h : RnOk n r) (k : Nat) : ∀ cs : List Nat, cs.length = k → runAfter r (formL cs) = stepsL r cs := by
  induction k with
  | zero =>
    intro cs e
    rw [List.eq_nil_of_length_eq_zero e]
    exact runAfter_nothing h
  | succ k ih =>
    intro cs e
    rcases snoc_or cs with rfl | ⟨a, c, rfl⟩
    · exact runAfter_nothing h
    · rw [formL_snoc, ← runAfter_both, ih a (by simpa using e), stepsL_snoc]
theorem conv_of {n : Nat} {r : List (Int × Int) × Int} (h : RnOk n r) (x : Str) : runAfter r (formOf x) = stepsL r x.cps.toList := conv_form h _ _ rfl
/-! ### forms of short chains -/
def FLs (L : Nat) : Fm → Prop
  | .keep b a => 0 ≤ b ∧ b ≤ L ∧ 0 ≤ a ∧ a ≤ L
  | .lf b a k c => 0 ≤ b ∧ b ≤ L ∧ 0 ≤ a ∧ a ≤ L ∧ 0 < k ∧ Sm (6 * L + 1) k ∧ 0 ≤ c ∧ c ≤ L
  | .cr b a k => 0 ≤ b ∧ b ≤ L ∧ 0 ≤ a ∧ a ≤ L ∧ 0 < k ∧ Sm (6 * L + 1) k
theorem sms_le {L : Nat} {x : Int} (h0 : 0 ≤ x) (h : x ≤ L) : Sm (6 * L + 1) x := by
  have h1 : L < 2 ^ L := Nat.lt_two_pow_self
  have h2 : 2 ^ L ≤ 2 ^ (6 * L + 1) := Nat.pow_le_pow_right (by decide) (by omega)
  unfold Sm
  omega
theorem FLs.ok {L : Nat} : ∀ {f : Fm}, FLs L f → f.Ok (6 * L + 1)
  | .keep _ _, ⟨h1, h2, h3, h4⟩ => ⟨h1, h3, sms_le h1 h2, sms_le h3 h4⟩
  | .lf _ _ _ _, ⟨h1, h2, h3, h4, h5, h6, h7, h8⟩ => ⟨h1, h3, h5, h7, sms_le h1 h2, sms_le h3 h4, h6, sms_le h7 h8⟩
  | .cr _ _ _, ⟨h1, h2, h3, h4, h5, h6⟩ => ⟨h1, h3, h5, sms_le h1 h2, sms_le h3 h4, h6⟩
theorem sms_mul {L : Nat} {k x : Int} (hk : Sm (6 * L + 1) k) (h0 : 0 ≤ x) (h : x < 64) : Sm (6 * (L + 1) + 1) (k * x * 1) := by
  have e : Sm 6 x := by
    unfold Sm
    have : (2 : Nat) ^ 6 = 64 := by decide
    omega
  rw [Int.mul_one]
  exact (hk.mul e).mono (by omega)
theorem sms_up {L : Nat} {k : Int} (hk : Sm (6 * L + 1) k) : Sm (6 * (L + 1) + 1) k := hk.mono (by omega)
theorem FLs.step {L : Nat} (hL : L ≤ 60) {c : Nat} (hc : c ∈ steps.cps.toList) {f : Fm} (h : FLs L f) : FLs (L + 1) (f.both (stepF c)) := by
  cases f with
  | keep b a =>
    obtain ⟨h1, h2, h3, h4⟩ := h
    have p1 := pp (0 - a)
    have p2 := pp (a - 0)
    have p3 := pp (1 - a)
    have p4 := pp (a - 1)
    have one : Sm (6 * (L + 1) + 1) 1 := sms_le (L := L + 1) (by decide) (by omega)
    rcases step_cases hc with e | e | e | e <;> rw [e] <;> simp only [Fm.both, Fm.ahead, Fm.b, Fm.a, FLs]
    · exact ⟨by omega, by omega, by omega, by omega⟩
    · exact ⟨by omega, by omega, by omega, by omega⟩
    · exact ⟨by omega, by omega, by omega, by omega, by decide, one, by decide, by omega⟩
    · exact ⟨by omega, by omega, by omega, by omega, by decide, one⟩
  | lf b a k d =>
    obtain ⟨h1, h2, h3, h4, h5, h6, h7, h8⟩ := h
    have p1 := pp (d - 0)
    have p2 := pp (d - 1)
    rcases step_cases hc with e | e | e | e <;> rw [e] <;> simp only [Fm.both, Fm.after, Fm.b, Fm.a, FLs]
    · exact ⟨h1, by omega, h3, by omega, h5, sms_up h6, by omega, by omega⟩
    · exact ⟨h1, by omega, h3, by omega, h5, sms_up h6, by omega, by omega⟩
    · refine ⟨h1, by omega, h3, by omega, ?_, sms_mul h6 (by omega) (by omega), by decide, by omega⟩
      rw [Int.mul_one]
      exact Int.mul_pos h5 (by omega)
    · refine ⟨h1, by omega, h3, by omega, ?_, sms_mul h6 (by omega) (by omega)⟩
      rw [Int.mul_one]
      exact Int.mul_pos h5 (by omega)
  | cr b a k =>
    obtain ⟨h1, h2, h3, h4, h5, h6⟩ := h
    rcases step_cases hc with e | e | e | e <;> rw [e] <;> simp only [Fm.both, FLs, Int.mul_one]
    · exact ⟨h1, by omega, h3, by omega, h5, sms_up h6⟩
    · exact ⟨h1, by omega, h3, by omega, h5, sms_up h6⟩
    · exact ⟨h1, by omega, h3, by omega, h5, sms_up h6, by decide, by omega⟩
    · exact ⟨h1, by omega, h3, by omega, h5, sms_up h6⟩
theorem formL_fls (k : Nat) : ∀ cs : List Nat, cs.length = k → k ≤ 61 → (∀ c ∈ cs, c ∈ steps.cps.toList) → FLs k (formL cs) := by
  induction k with
  | zero =>
    intro cs h _ _
    rw [List.eq_nil_of_length_eq_zero h]
    exact ⟨by decide, by decide, by decide, by decide⟩
  | succ k ih =>
    intro cs h hk hc
    rcases snoc_or cs with rfl | ⟨a, c, rfl⟩
    · simp at h
    · rw [formL_snoc]
      exact (ih a (by simpa using h) (by omega) fun d hd => hc d (List.mem_append.mpr (.inl hd))).step (by omega) (hc c (by simp))
/-! ### lengths -/
theorem addTo_len (a : List (Int × Int)) (x : Int × Int) : (addTo a x).length ≤ a.length + 1 := by
  rcases snoc_or a with rfl | ⟨b, y, rfl⟩
  · exact Nat.le_refl _
  · rw [addTo_snoc]
    split <;> simp
theorem fold_len : ∀ (gs acc : List (Int × Int)), (gs.foldl addTo acc).length ≤ acc.length + gs.length
  | [], acc => Nat.le_refl _
  | g :: gs, acc => by
    have h1 := fold_len gs (addTo acc g)
    have h2 := addTo_len acc g
    rw [List.foldl_cons, List.length_cons]
    omega
theorem runAfter_len (r : List (Int × Int) × Int) (f : Fm) : (runAfter r f).1.length ≤ max r.1.length 1 := by
  cases f with
  | keep b a =>
    have := fold_len (moved (.keep b a) r.1) []
    have e : (moved (.keep b a) r.1).length = r.1.length := List.length_map ..
    show (Lx.merged (moved (.keep b a) r.1)).length ≤ _
    unfold Lx.merged
    rw [e] at this
    simp at this
    omega
  | lf b a k c =>
    show (if k * units r (.lf b a k c) = 0 then (([] : List (Int × Int)), (0 : Int)) else ([(k * units r (.lf b a k c), c)], 0)).1.length ≤ _
    split
    · exact Nat.zero_le _
    · exact Nat.le_max_right ..
  | cr b a k => exact Nat.zero_le _
theorem _root_.Lx.RnOk.mono {n m : Nat} {r : List (Int × Int) × Int} (h : RnOk n r) (k : n ≤ m) : RnOk m r :=
  ⟨fun i x hx => let ⟨h1, h2, h3, h4, h5⟩ := h.gs i x hx; ⟨h1, h2, h3.mono k, h4.mono k, h5⟩, ⟨h.rest.1, h.rest.2.mono k⟩, h.len⟩
/-- a chain of at most sixty steps from a run with numbers below 2 ^ 361 -/
theorem stepsL_ok {n : Nat} {r : List (Int × Int) × Int} (h : RnOk n r) (hn : n ≤ 361) {cs : List Nat} (hl : cs.length ≤ 60) (hc : ∀ c ∈ cs, c ∈ steps.cps.toList) : RnOk 1123 (stepsL r cs) ∧ (stepsL r cs).1.length ≤ max r.1.length 1 := by
  rw [← conv_form h _ cs rfl]
  have f := (formL_fls _ cs rfl (by omega) hc).ok
  exact ⟨runAfter_ok (h.mono hn) (f.mono (by omega)), runAfter_len r _⟩
/-! ### runs that repr can write -/
theorem pd_smallB {b : Nat} : ∀ (gs : List (Int × Int)), (∀ x ∈ gs, Sm b x.1 ∧ Sm b x.2) → smallB.smallAll b (pd gs) = true
  | [], _ => rfl
  | g :: gs, h => by
    have h1 := h g (List.mem_cons_self ..)
    have ih := pd_smallB gs fun x hx => h x (List.mem_cons_of_mem _ hx)
    unfold pd at ih ⊢
    simp only [List.map_cons, smallB.smallAll, smallB, ih, Bool.and_true]
    rw [decide_eq_true (show g.1.natAbs < 2 ^ b from h1.1), decide_eq_true (show g.2.natAbs < 2 ^ b from h1.2)]
    rfl
theorem rd_smallB {b : Nat} {g : List (Int × Int) × Int} (h : RnOk b g) : smallB b (rd g) = true := by
  have e1 := pd_smallB (b := b) g.1 fun x hx => by
    obtain ⟨i, hi⟩ := List.mem_iff_getElem?.mp hx
    exact ⟨(h.gs i x hi).2.2.1, (h.gs i x hi).2.2.2.1⟩
  unfold rd
  simp only [smallB, smallB.smallAll, e1, Bool.and_true, Bool.true_and]
  exact decide_eq_true h.rest.2
theorem pd_bulk3 (gs : List (Int × Int)) : PyData.bulkAll (pd gs) = 3 * gs.length := by
  unfold pd
  induction gs with
  | nil => rfl
  | cons g gs ih =>
    simp only [List.map_cons, PyData.bulkAll, PyData.bulk, List.length_cons]
    omega
theorem rd_bulk (g : List (Int × Int) × Int) : (rd g).bulk = 3 * g.1.length + 2 := by
  have e := pd_bulk3 g.1
  unfold rd
  simp only [PyData.bulk, PyData.bulkAll]
  omega
theorem rd_fit {g : List (Int × Int) × Int} (h : RnOk 1123 g) (hl : g.1.length ≤ 1000) : Fit (rd g) := by
  have e := rd_bulk g
  have e2 := rd_depth g
  exact fit_b (b := 1123) (by decide) (by decide) (rd_smallB h) (by omega) (by omega)
theorem rd2_fit {g h : List (Int × Int) × Int} (h1 : RnOk 1123 g) (h2 : RnOk 1123 h) (hl : g.1.length ≤ 1000) (hl2 : h.1.length ≤ 1000) : Fit (.list [rd g, rd h]) := by
  have e := rd_bulk g
  have e' := rd_bulk h
  have e2 := rd_depth g
  have e2' := rd_depth h
  refine fit_b (b := 1123) (by decide) (by decide) ?_ ?_ ?_
  · simp only [smallB, smallB.smallAll, rd_smallB h1, rd_smallB h2, Bool.and_true]
  · simp only [PyData.depth, PyData.depthAll]
    omega
  · simp only [PyData.bulk, PyData.bulkAll]
    omega
theorem int_fit {x : Int} (h : Sm 1900 x) : Fit (.int x) := by
  refine fit_b (b := 1900) (by decide) (by decide) ?_ (by simp [PyData.depth]) (by simp [PyData.bulk])
  simp only [smallB]
  exact decide_eq_true h
end Lw
namespace Lw
open PySem PySem.Spec L2 Lx
theorem cutS_head (z : Str) (k : Nat) (h : k ≤ z.cps.size) : (cutS z none (some (k : Int))).cps.toList = z.cps.toList.take k := by
  unfold cutS
  have e : z.length = z.cps.size := rfl
  rw [e, HT.sIx_none, HT.sIx_nat, Nat.min_eq_left h]
  simp
theorem cutS_tail (z : Str) (k : Nat) (h : k ≤ z.cps.size) : (cutS z (some (k : Int)) none).cps.toList = z.cps.toList.drop k := by
  unfold cutS
  have e : z.length = z.cps.size := rfl
  rw [e, HT.sIx_none, HT.sIx_nat, Nat.min_eq_left h]
  simp
  exact List.take_of_length_le (by simp)
end Lw
namespace Lw
open PySem PySem.Spec L2 Lx
theorem units_size {g : List (Int × Int) × Int} {f : Fm} (h : RnOk 361 g) (hf : f.Ok 361) : Sm 1600 (units (runAfter g f) nothing) := by
  have hu := units_ok (RnOk.sm h) hf
  cases f with
  | keep b a =>
    rw [units_both]
    have e : (Fm.keep b a).both nothing = .keep b a := by
      have p1 := pp (0 - a)
      have p2 := pp (a - 0)
      have ha := hf.2.1
      show Fm.keep (b + (if 0 - a > 0 then 0 - a else 0)) ((if a - 0 > 0 then a - 0 else 0) + 0) = _
      congr 1 <;> omega
    rw [e]
    exact hu.2.mono (by decide)
  | lf b a k c =>
    by_cases z : k * units g (.lf b a k c) = 0
    · rw [show runAfter g (.lf b a k c) = ([], 0) from if_pos z]
      exact Nat.two_pow_pos _
    · rw [show runAfter g (.lf b a k c) = ([(k * units g (.lf b a k c), c)], 0) from if_neg z, units_one, after_nothing hf.2.2.2.1]
      have h1 := hf.2.2.2.2.2.2.1.mul hu.2
      have h2 : Sm 362 (c + 1) := hf.2.2.2.2.2.2.2.add (Nat.lt_of_lt_of_le (by decide : (1 : Int).natAbs < 2 ^ 1) (Nat.pow_le_pow_right (by decide) (by decide)))
      exact (h1.mul h2).mono (by decide)
  | cr b a k =>
    show Sm 1600 (units ([], k * units g (.cr b a k)) nothing)
    rw [units_none]
    exact (hf.2.2.2.2.2.mul hu.2).mono (by decide)
theorem stepsL_units {n : Nat} {r : List (Int × Int) × Int} (h : RnOk n r) (hn : n ≤ 361) {cs : List Nat} (hl : cs.length ≤ 60) (hc : ∀ c ∈ cs, c ∈ steps.cps.toList) : Sm 1900 (units (stepsL r cs) nothing) := by
  rw [← conv_form h _ cs rfl]
  have f := (formL_fls _ cs rfl (by omega) hc).ok
  exact (units_size (h.mono hn) (f.mono (by omega))).mono (by decide)
end Lw
namespace Lw
open PySem PySem.Spec L2 Lx
theorem scLRun : FnScope ["rng", "most", "groups", "last", "turn", "many", "returns"] ["rng", "most"] (defScope sLRun) := ⟨rfl, rfl, rfl, by decide +kernel, rfl, by decide +kernel, by decide +kernel⟩
def spLRun (K : PySem.W.Frag) : Sp := fun vs H Q _ => ∃ (r : Addr) (n m : Nat), vs = [.ref r, .int m] ∧ RngAt H r n ∧ n < 900000000 ∧ m ≤ 100 ∧
  ∀ (v : V) (g : List (Int × Int) × Int) (H' : Hp), NewRn K H H' v g → RnOk 100 g → g.1.length ≤ m → RngAt H' r (n + 4 + 7 * m) → Kq r H H' → Q v H'
theorem p29 : (10 : Int) ^ Int.toNat 29 = 100000000000000000000000000000 := by decide +kernel
theorem p30 : (10 : Int) ^ Int.toNat 30 = 1000000000000000000000000000000 := by decide +kernel
theorem sm_of {x : Int} (h0 : 0 ≤ x) (h1 : x ≤ 1000000000000000000000000000000) : Sm 100 x := by
  have : (2 : Nat) ^ 100 = 1267650600228229401496703205376 := by decide +kernel
  unfold Sm
  omega
section
variable {P : Program} {w : World} {K : PySem.W.Frag} {mg : Str → Option Value} {base : Heap}
theorem ok_lrun {f fD : Addr} {fd fdD : FuncData} {k : Nat} (F : Fun K "_law_run" "_law_run" sLRun f fd) (mR : mg "range" = none)
    (GD : FnOk P w K mg base CX0 k fD fdD ["rng", "limit"] spDraw) (kD : PySem.W.keepIn K (.ref fD) = true) (bD : Binds K fdD ["rng", "limit"] []) (gD : mg "_law_draw" = some (.ref fD)) :
    FnOk P w K mg base CX0 (k + 1) f fd ["rng", "most"] (spLRun K) := by
  refine F.ok scLRun (fun vs H Q E h => ?_) (fun cdv A outer s H vs Q E hr h => ?_)
  · obtain ⟨r, n, m, rfl, _⟩ := h
    rfl
  · obtain ⟨r, n, m, rfl, hS, hn, hm, q⟩ := h
    refine ⟨_, pss_cons (ps_par (i := 2) (j := 3) rfl scLRun.nd rfl rfl (by decide) rfl rfl (pa_cons (pe_lst pa_nil) (pa_cons (pe_un un_neg pe_int) pa_nil)) rfl)
      (pss_cons (ps_for PassesOwn.never rfl (pi_range1 rfl mR (pa_cons (pe_call GD hr (by rfl) gD kD bD .nil pass0 (pa_cons (pv 0) (pa_cons (pe_op op_add (pv 1) pe_int) pa_nil))) pa_nil)) (pg_name (i := 4) scLRun.nd rfl (.inl rfl))
        (pss_cons (ps_set (i := 5) scLRun.nd rfl (.inl rfl) (pe_op op_add pe_int (pe_ix ix_list (pe_lst (pa_cons (pe_call GD hr (by rfl) gD kD bD .nil pass0 (pa_cons (pv 0) (pa_cons pe_int pa_nil))) (pa_cons (pe_call GD hr (by rfl) gD kD bD .nil pass0 (pa_cons (pv 0) (pa_cons (pe_op op_pow pe_int pe_int) pa_nil))) pa_nil))) (pe_call GD hr (by rfl) gD kD bD .nil pass0 (pa_cons (pv 0) (pa_cons pe_int pa_nil))) (fun _ _ => rfl))))
        (pss_cons (ps_set (i := 6) scLRun.nd rfl (.inl rfl) (pe_ix ix_list (pe_lst (pa_cons (pe_call GD hr (by rfl) gD kD bD .nil pass0 (pa_cons (pv 0) (pa_cons pe_int pa_nil))) (pa_cons (pe_call GD hr (by rfl) gD kD bD .nil pass0 (pa_cons (pv 0) (pa_cons pe_int pa_nil))) (pa_cons (pe_call GD hr (by rfl) gD kD bD .nil pass0 (pa_cons (pv 0) (pa_cons (pe_op op_pow pe_int pe_int) pa_nil))) (pa_cons pe_int pa_nil))))) (pe_call GD hr (by rfl) gD kD bD .nil pass0 (pa_cons (pv 0) (pa_cons pe_int pa_nil))) (fun _ _ => rfl)))
        (pss_cons (ps_if (pt_cmpR op_eq (pv 6) (pv 3) (nomark _)) (pss_one (ps_set (i := 6) scLRun.nd rfl (.inl rfl) (pe_op op_add (pv 6) pe_int))) pss_nil)
        (pss_cons (ps_expr (pe_bm PySem.F.plainAttrs_list PySem.F.slot_list_append PySem.F.type_list_append mt_append (pv 2) (pa_cons (pe_tup (pa_cons (pv 5) (pa_cons (pv 6) pa_nil))) pa_nil)))
        (pss_one (ps_set (i := 3) scLRun.nd rfl (.inl rfl) (pv 6))))))))
      (pss_one (ps_ret (pe_tup (pa_cons (pv 2) (pa_cons (pe_ix ix_list (pe_lst (pa_cons pe_int (pa_cons (pe_call GD hr (by rfl) gD kD bD .nil pass0 (pa_cons (pv 0) (pa_cons pe_int pa_nil))) (pa_cons (pe_call GD hr (by rfl) gD kD bD .nil pass0 (pa_cons (pv 0) (pa_cons (pe_op op_pow pe_int pe_int) pa_nil))) pa_nil)))) (pe_call GD hr (by rfl) gD kD bD .nil pass0 (pa_cons (pv 0) (pa_cons pe_int pa_nil))) (fun _ _ => rfl)) pa_nil)))))), ?_⟩
    refine ⟨Nat.zero_le _, fun l nl => ?_⟩
    have s0 := same_upd (o := .lst []) nl
    have hln := hS.ne nl
    refine ⟨1, rfl, _, _, rfl, ?_⟩
    refine ⟨_, rfl, _, rfl, _, _, rfl, rfl, r, n, (m : Int) + 1, rfl, hS.same s0, by omega, by omega, ?_, fun cnt H1 c0 c1 hS1 k1 => ?_⟩
    · exact Nat.lt_of_lt_of_le (show ((m : Int) + 1).natAbs < 2 ^ 7 by omega) (Nat.pow_le_pow_right (by decide) (by decide))
    refine ⟨_, rfl, by omega, by omega, ?_⟩
    refine for_range (lo := 0) (n := cnt.toNat) (fun i σ H' => ∃ (lst : Int) (y4 y5 y6 : Option V) (xs : List V) (gs : List (Int × Int)), σ = [some (.ref r), some (.int m), some (.ref l), some (.int lst), y4, y5, y6] ∧ H' l = some (.lst xs) ∧ Prs K H' xs gs ∧ GsOk 100 gs ∧ gs.length ≤ i ∧ (∀ a y, gs = a ++ [y] → y.2 = lst) ∧ RngAt H' r (n + 1 + 7 * i) ∧ Kq r H H')
      ⟨_, none, none, none, [], [], rfl, k1.kq _ _ hln upd_same, .nil, (fun i x h => by simp at h), Nat.le_refl _, (fun a y e => by simp at e), hS1, (Kq.of s0).trans k1.kq⟩ ?_ ?_
    · rintro i σ H2 hi ⟨lst, y4, y5, y6, xs, gs, rfl, hl, hP, hg, hgl, hlast, hS2, hk2⟩
      have hi2 : i < m := by omega
      -- many
      refine ⟨_, rfl, r, _, 3, rfl, hS2, by omega, by decide, by decide, fun a H3 a0 a1 hS3 k3 => ⟨_, rfl, _, _, rfl, rfl, ⟨by decide, by decide, by decide⟩, r, _, _, rfl, hS3, by omega, by decide +kernel, by decide +kernel, fun b H4 b0 b1 hS4 k4 => ⟨by show 2 ≤ sizeLine; decide, fun L nL => ?_⟩⟩⟩
      rw [p29] at b1
      have s5 := same_upd (o := .lst [.int a, .int b]) nL
      refine ⟨_, rfl, r, _, 2, rfl, hS4.same s5, by omega, by decide, by decide, fun c H6 c0 c1 hS6 k6 => ?_⟩
      have hL6 : H6 L = some (.lst [.int a, .int b]) := k6.kq _ _ (hS4.ne nL) upd_same
      have kk := ((k3.kq.trans k4.kq).trans (Kq.of s5)).trans k6.kq
      have pick : ∃ x : Int, atI [V.int a, .int b] c = some (.int x) ∧ 0 ≤ x ∧ x < 100000000000000000000000000000 := by
        have : c = 0 ∨ c = 1 := by omega
        rcases this with rfl | rfl
        · exact ⟨a, rfl, a0, by omega⟩
        · exact ⟨b, rfl, b0, b1⟩
      obtain ⟨one, hx, x0, x1⟩ := pick
      refine ⟨L, _, c, _, rfl, rfl, .inl (.inl hL6), hx, _, _, rfl, rfl, ?_⟩
      -- returns
      refine ⟨_, rfl, r, _, 4, rfl, hS6, by omega, by decide, by decide, fun a' H7 a0' a1' hS7 k7 => ⟨_, rfl, r, _, 60, rfl, hS7, by omega, by decide, by decide, fun b' H8 b0' b1' hS8 k8 => ⟨_, rfl, _, _, rfl, rfl, ⟨by decide, by decide, by decide⟩, r, _, _, rfl, hS8, by omega, by decide +kernel, by decide +kernel, fun d H9 d0 d1 hS9 k9 => ⟨by show 4 ≤ sizeLine; decide, fun M nM => ?_⟩⟩⟩⟩
      rw [p29] at d1
      have s10 := same_upd (o := .lst [.int a', .int b', .int d, .int 0]) nM
      refine ⟨_, rfl, r, _, 4, rfl, hS9.same s10, by omega, by decide, by decide, fun e H11 e0 e1 hS11 k11 => ?_⟩
      have hM11 : H11 M = some (.lst [.int a', .int b', .int d, .int 0]) := k11.kq _ _ (hS9.ne nM) upd_same
      have kk2 := (((kk.trans k7.kq).trans k8.kq).trans k9.kq).trans ((Kq.of s10).trans k11.kq)
      have pick2 : ∃ x : Int, atI [V.int a', .int b', .int d, .int 0] e = some (.int x) ∧ 0 ≤ x ∧ x < 100000000000000000000000000000 := by
        have : e = 0 ∨ e = 1 ∨ e = 2 ∨ e = 3 := by omega
        rcases this with rfl | rfl | rfl | rfl
        · exact ⟨a', rfl, a0', by omega⟩
        · exact ⟨b', rfl, b0', by omega⟩
        · exact ⟨d, rfl, d0, d1⟩
        · exact ⟨0, rfl, by decide, by decide⟩
      obtain ⟨two, hy, z0, z1⟩ := pick2
      refine ⟨M, _, e, _, rfl, rfl, .inl (.inl hM11), hy, ?_⟩
      have hl11 := kk2 _ _ hln hl
      have hP11 := Prs.kq hS2 kk2 hP
      have hk11 := hk2.trans kk2
      -- the same as the last
      have fin : ∀ (ret : Int), 0 ≤ ret → ret ≤ 100000000000000000000000000000 → ret ≠ lst → ∀ t, H11 t = none →
          let H' := upd (upd H11 t (.tup [.int (1 + one), .int ret])) l (.lst (xs ++ [.ref t]))
          (∃ (lst' : Int) (y4 y5 y6 : Option V) (xs : List V) (gs : List (Int × Int)), [some (V.ref r), some (.int m), some (.ref l), some (.int ret), some (.int (0 + (i : Int))), some (.int (1 + one)), some (.int ret)] = [some (.ref r), some (.int m), some (.ref l), some (.int lst'), y4, y5, y6] ∧ H' l = some (.lst xs) ∧ Prs K H' xs gs ∧ GsOk 100 gs ∧ gs.length ≤ i + 1 ∧ (∀ a y, gs = a ++ [y] → y.2 = lst') ∧ RngAt H' r (n + 1 + 7 * (i + 1)) ∧ Kq r H H') := fun ret r0 r1 rn t nt => by
        have s12 := same_upd (o := .tup [.int (1 + one), .int ret]) nt
        refine ⟨ret, _, _, _, xs ++ [.ref t], gs ++ [(1 + one, ret)], rfl, upd_same, Prs.lstUpd (s12 _ _ hl11) ((hP11.same s12).append (.cons ⟨t, rfl, upd_same⟩ .nil)), gsok_snoc hg (fun a y e z => rn (by rw [← hlast a y e]; exact z.symm)) ⟨by show (1 : Int) ≤ 1 + one; omega, r0, sm_of (by show 0 ≤ 1 + one; omega) (by show 1 + one ≤ _; omega), sm_of r0 (by show ret ≤ _; omega)⟩, by rw [List.length_append]; exact Nat.add_le_add_right hgl 1, fun a y e => ?_, ((hS11.same s12).own hln).mono (by omega), (hk11.trans (Kq.of s12)).own nl⟩
        have := (List.append_inj' e rfl).2
        cases this
        rfl
      have hxl := hP.len
      refine ⟨_, rfl, _, rfl, rfl, _, rfl, ?_⟩
      by_cases eq : two = lst
      · rw [decide_eq_true (show V.int two = V.int lst by rw [eq])]
        refine iteT ⟨_, rfl, _, _, rfl, rfl, ?_⟩
        refine ⟨_, rfl, .inl ⟨rfl, _, .inl (.inl hl11)⟩, _, rfl, _, rfl, by show 2 ≤ sizeLine; decide, fun t nt => ?_⟩
        refine ⟨l, _, .ref t, rfl, rfl, same_upd nt _ _ hl11, by rw [hxl, sizeLine_eq]; omega, ?_⟩
        exact ⟨_, rfl, fin (two + 1) (by omega) (by omega) (by omega) t nt⟩
      · rw [decide_eq_false (fun z => eq (V.int.inj z))]
        refine iteF ⟨_, rfl, .inl ⟨rfl, _, .inl (.inl hl11)⟩, _, rfl, _, rfl, by show 2 ≤ sizeLine; decide, fun t nt => ?_⟩
        refine ⟨l, _, .ref t, rfl, rfl, same_upd nt _ _ hl11, by rw [hxl, sizeLine_eq]; omega, ?_⟩
        exact ⟨_, rfl, fin two z0 (by omega) eq t nt⟩
    · rintro σ H2 ⟨lst, y4, y5, y6, xs, gs, rfl, hl, hP, hg, hgl, hlast, hS2, hk2⟩
      refine ⟨_, rfl, _, rfl, r, _, 9, rfl, hS2, by omega, by decide, by decide, fun a H3 a0 a1 hS3 k3 => ⟨_, rfl, _, _, rfl, rfl, ⟨by decide, by decide, by decide⟩, r, _, _, rfl, hS3, by omega, by decide +kernel, by decide +kernel, fun b H4 b0 b1 hS4 k4 => ⟨by show 3 ≤ sizeLine; decide, fun L nL => ?_⟩⟩⟩
      rw [p30] at b1
      have s5 := same_upd (o := .lst [.int 0, .int a, .int b]) nL
      refine ⟨_, rfl, r, _, 3, rfl, hS4.same s5, by omega, by decide, by decide, fun c H6 c0 c1 hS6 k6 => ?_⟩
      have hL6 : H6 L = some (.lst [.int 0, .int a, .int b]) := k6.kq _ _ (hS4.ne nL) upd_same
      have kk := ((k3.kq.trans k4.kq).trans (Kq.of s5)).trans k6.kq
      have pick : ∃ x : Int, atI [V.int 0, .int a, .int b] c = some (.int x) ∧ 0 ≤ x ∧ x < 1000000000000000000000000000000 := by
        have : c = 0 ∨ c = 1 ∨ c = 2 := by omega
        rcases this with rfl | rfl | rfl
        · exact ⟨0, rfl, by decide, by decide⟩
        · exact ⟨a, rfl, a0, by omega⟩
        · exact ⟨b, rfl, b0, b1⟩
      obtain ⟨rest, hx, x0, x1⟩ := pick
      have hk6 := hk2.trans kk
      refine ⟨L, _, c, _, rfl, rfl, .inl (.inl hL6), hx, by show 2 ≤ sizeLine; decide, fun t nt => ?_⟩
      have s7 := same_upd (o := .tup [.ref l, .int rest]) nt
      exact q _ (gs, rest) _ ⟨t, l, xs, rfl, hk6.free hS6 nt, nl, upd_same, s7 _ _ (kk _ _ hln hl), (Prs.kq hS2 kk hP).same s7⟩ ⟨hg, ⟨x0, sm_of x0 (by omega)⟩, by show gs.length ≤ 1000; omega⟩ (by show gs.length ≤ m; omega) ((hS6.same s7).mono (by omega)) (hk6.trans (Kq.of s7))
end
end Lw
namespace Lw
open PySem PySem.Spec L2 Lx
abbrev nLAfter : List Str := ["piece", "step", "groups", "rest", "total", "many", "returns", "found"]
theorem scLAfter : FnScope nLAfter ["piece", "step"] (defScope sLAfter) := ⟨rfl, rfl, rfl, by decide +kernel, rfl, by decide +kernel, by decide +kernel⟩
def spLAfter (K : PySem.W.Frag) : Sp := fun vs H Q _ => ∃ x l r c n, vs = [x, .str ⟨#[c]⟩] ∧ RnAt K H x l r ∧ c ∈ steps.cps.toList ∧ RnSm n r ∧ 0 < n ∧ n ≤ 100000 ∧ ∀ v H', Same H H' → NewRn K H H' v (runAfter r (stepF c)) → Q v H'
structure LaF (mg : Str → Option Value) : Prop where
  int : mg "int" = none
  max : mg "max" = none
theorem steps_cases {c : Nat} (h : c ∈ steps.cps.toList) : c = 85 ∨ c = 68 ∨ c = 77 ∨ c = 78 := by
  have h' : c ∈ [85, 68, 77, 78] := h
  simpa using h'
def totE (gs : List (Int × Int)) : Int := (gs.map fun x => x.1 + x.1 * x.2).sum
theorem totE_units {gs : List (Int × Int)} {f : Fm} (hf : ∀ j, f.after j = if j > 0 then j else 0) (h : ∀ x ∈ gs, 0 ≤ x.2) : totE gs = total (moved f gs) := by
  unfold totE total moved
  rw [List.map_map]
  congr 1
  refine List.map_congr_left fun x hx => ?_
  have := h x hx
  show x.1 + x.1 * x.2 = x.1 * (f.after x.2 + 1)
  rw [hf, Int.mul_add, Int.mul_one, Int.add_comm]
  congr 2
  split <;> omega
theorem after_m (j : Int) : (Fm.lf 0 0 1 0).after j = if j > 0 then j else 0 := by
  show (if j - 0 > 0 then j - 0 else 0) + 0 = _
  rw [Int.sub_zero, Int.add_zero]
theorem after_n (j : Int) : (Fm.cr 0 0 1).after j = if j > 0 then j else 0 := by
  show (if j - 0 > 0 then j - 0 else 0) + 0 = _
  rw [Int.sub_zero, Int.add_zero]
theorem stepF_ok {c : Nat} (h : c ∈ steps.cps.toList) {n : Nat} (hn : 0 < n) : (stepF c).Ok n := by
  have o : Sm n 1 := Nat.lt_of_lt_of_le (by decide : (1 : Int).natAbs < 2 ^ 1) (Nat.pow_le_pow_right (by decide) hn)
  have z : Sm n 0 := Nat.two_pow_pos n
  rcases step_cases h with e | e | e | e <;> rw [e]
  · exact ⟨by decide, by decide, z, o⟩
  · exact ⟨by decide, by decide, o, z⟩
  · exact ⟨by decide, by decide, by decide, by decide, z, z, o, z⟩
  · exact ⟨by decide, by decide, by decide, z, z, o⟩
section
variable {P : Program} {w : World} {K : PySem.W.Frag} {mg : Str → Option Value} {base : Heap}
theorem ok_lafter {f : Addr} {fd : FuncData} {k : Nat} (F : Fun K "_law_after" "_law_after" sLAfter f fd) (Z : LaF mg) : FnOk P w K mg base CX0 (k + 1) f fd ["piece", "step"] (spLAfter K) := by
  refine F.ok scLAfter (fun vs H Q E h => ?_) (fun cdv A outer s H vs Q E hr h => ?_)
  · obtain ⟨x, l, r, c, n, rfl, _⟩ := h
    rfl
  · obtain ⟨_, l, r, c, n, rfl, ⟨p, rfl, hT, xs, hL, hP⟩, hc, hs, hn0, hn, q⟩ := h
    refine ⟨_, (pss_cons (ps_asg (pv 0) (pg_tup (by rfl) (pgs_cons (pg_name (i := 2) scLAfter.nd rfl (.inl rfl)) (pgs_cons (pg_name (i := 3) scLAfter.nd rfl (.inl rfl)) pgs_nil))))
      (pss_cons (ps_if (pt_cmpR op_in_seq (pv 1) (pe_lst (pa_cons pe_str (pa_cons pe_str pa_nil))) (by with_unfolding_all rfl))
          (pss_cons (ps_set (i := 4) scLAfter.nd rfl (.inl rfl) (pv 3))
          (pss_cons (ps_for PassesOwn.never rfl (pi_list (pv 2)) (pg_tup (by rfl) (pgs_cons (pg_name (i := 5) scLAfter.nd rfl (.inl rfl)) (pgs_cons (pg_name (i := 6) scLAfter.nd rfl (.inl rfl)) pgs_nil)))
              (pss_one (ps_set (i := 4) scLAfter.nd rfl (.inl rfl) (pe_op op_add (pe_op op_add (pv 4) (pv 5)) (pe_op op_mulW (pv 5) (pv 6))))))
          (pss_one (ps_ret (pe_tup (pa_cons (pe_op op_rep (pe_lst (pa_cons (pe_tup (pa_cons (pv 4) (pa_cons pe_int pa_nil))) pa_nil)) (pe_callTy call_int1 (by rfl) Z.int (by decide +kernel) (pa_cons (pe_and (pe_cmpR op_eq (pv 1) pe_str (nomark _)) (pe_one (pe_cmpR op_gt (pv 4) pe_int (nomark _)))) pa_nil))) (pa_cons (pe_op op_mulW (pv 4) (pe_callTy call_int1 (by rfl) Z.int (by decide +kernel) (pa_cons (pe_cmpR op_eq (pv 1) pe_str (nomark _)) pa_nil))) pa_nil))))))) pss_nil)
      (pss_cons (ps_set (i := 7) scLAfter.nd rfl (.inl rfl) (pe_lst pa_nil))
      (pss_cons (ps_for PassesOwn.never rfl (pi_list (pv 2)) (pg_tup (by rfl) (pgs_cons (pg_name (i := 5) scLAfter.nd rfl (.inl rfl)) (pgs_cons (pg_name (i := 6) scLAfter.nd rfl (.inl rfl)) pgs_nil)))
          (pss_cons (ps_set (i := 6) scLAfter.nd rfl (.inl rfl) (pe_ifExp (pt_cmpR op_eq (pv 1) pe_str (nomark _)) (pe_op op_add (pv 6) pe_int) (pe_op op_sub (pe_callB (call_max2 rfl) (by rfl) Z.max (by decide +kernel) (pa_cons pe_int (pa_cons (pv 6) pa_nil))) pe_int)))
          (pss_cons (ps_if (PW.pt (pw_and (pt_cmpR (op_neD hr.units) (pv 7) (pe_lst pa_nil) (nomark _)) (pw_and1 (pt_cmpR op_eq (pe_ix ix_tup (pe_ix ix_list (pv 7) (pe_un un_neg pe_int) (fun _ _ => rfl)) pe_int (fun _ _ => rfl)) (pv 6) (nomark _)))))
              (pss_one (ps_set (i := 5) scLAfter.nd rfl (.inl rfl) (pe_op op_add (pv 5) (pe_ix ix_tup (pe_bm0 PySem.F.plainAttrs_list PySem.F.slot_list_pop PySem.F.type_list_pop mt_pop (pv 7)) pe_int (fun _ _ => rfl))))) pss_nil)
          (pss_one (ps_expr (pe_bm PySem.F.plainAttrs_list PySem.F.slot_list_append PySem.F.type_list_append mt_append (pv 7) (pa_cons (pe_tup (pa_cons (pv 5) (pa_cons (pv 6) pa_nil))) pa_nil)))))))
      (pss_one (ps_ret (pe_tup (pa_cons (pv 7) (pa_cons (pv 3) pa_nil))))))))), ?_⟩
    refine ⟨_, rfl, p, _, rfl, hT, rfl, _, _, rfl, _, _, rfl, rfl, ?_⟩
    refine ⟨_, rfl, by show 2 ≤ sizeLine; decide, fun D nD => ?_⟩
    have s0 := same_upd (o := .lst [.str "M", .str "N"]) nD
    refine ⟨D, _, rfl, .inl (.inl (.inl upd_same)), rfl, rfl, _, rfl, ?_⟩
    have hcc := steps_cases hc
    by_cases hMN : c = 77 ∨ c = 78
    · have e : (if false = true then !inV (.str ⟨#[c]⟩) [.str "M", .str "N"] else inV (.str ⟨#[c]⟩) [.str "M", .str "N"]) = true := by
        rcases hMN with rfl | rfl <;> decide +kernel
      rw [e]
      refine iteT ?_
      have hall : ∀ x ∈ r.1, 0 ≤ x.2 := fun x hx => (hs.1 x hx).2.1
      have eTot : ∀ f : Fm, (∀ j, f.after j = if j > 0 then j else 0) → r.2 + totE r.1 = units r f := fun f hf => by
        rw [totE_units hf hall]
        exact Int.add_comm ..
      refine ⟨_, rfl, ?_⟩
      refine ⟨_, rfl, l, rfl, ⟨_, s0.seq hL⟩, ?_⟩
      refine for_it (walk_list (xs := xs)) (fun i σ H' => Same H H' ∧ ∃ y5 y6, σ = [some (.ref p), some (.str ⟨#[c]⟩), some (.ref l), some (.int r.2), some (.int (r.2 + totE (r.1.take i))), y5, y6, none] )
        ⟨s0, none, none, by rw [show r.2 + totE (r.1.take 0) = r.2 by simp [totE]]; rfl⟩ (fun i σ H' _ hQ => hQ.1.seq hL) ?_ ?_
      · rintro i u σ H1 H2 hi ⟨sm, y5, y6, rfl⟩ ⟨rfl, hu⟩
        obtain ⟨x, hx, a, rfl, ha'⟩ := hP.get hu
        obtain ⟨x1, x2, x3, x4⟩ := hs.1 x (List.mem_of_getElem? hx)
        refine ⟨a, _, rfl, .inl (.inl (sm _ _ ha')), rfl, _, _, rfl, _, _, rfl, rfl, ?_⟩
        have e : totE (r.1.take (i + 1)) = totE (r.1.take i) + (x.1 + x.1 * x.2) := by
          unfold totE
          rw [List.take_succ, hx, List.map_append, List.sum_append]
          simp
        have e2 : r.2 + totE (r.1.take i) + x.1 + x.1 * x.2 = r.2 + totE (r.1.take (i + 1)) := by
          rw [e, Int.add_assoc, Int.add_assoc]
        refine ⟨_, rfl, _, rfl, _, _, rfl, rfl, _, rfl, _, rfl, _, _, rfl, rfl, wide_mul x3 x4 hn0 hn0 (by omega), _, _, rfl, rfl, sm, some (.int x.1), some (.int x.2), ?_⟩
        rw [← e2]
        rfl
      · rintro σ H1 ⟨sm, y5, y6, rfl⟩
        rw [List.take_of_length_le (by rw [← hP.len]; exact Nat.le_refl _)]
        rcases hMN with rfl | rfl
        · -- M
          have eT := eTot (.lf 0 0 1 0) after_m
          rw [eT]
          have hu := units_ok hs (f := .lf 0 0 1 0) (stepF_ok (c := 77) hc hn0)
          have eR : runAfter r (stepF 77) = if units r (.lf 0 0 1 0) = 0 then ([], 0) else ([(units r (.lf 0 0 1 0), 0)], 0) := by
            show (if 1 * units r (.lf 0 0 1 0) = 0 then _ else _) = _
            rw [Int.one_mul]
          rw [eR] at q
          generalize units r (.lf 0 0 1 0) = U at hu q
          refine ⟨_, rfl, by show 2 ≤ sizeLine; decide, fun g ng => ⟨by show 1 ≤ sizeLine; decide, fun l2 nl2 => ?_⟩⟩
          have s3 := same_upd (o := .tup [.int U, .int 0]) ng
          have s4 := same_upd (o := .lst [.ref g]) nl2
          refine ⟨_, rfl, rfl, _, rfl, iteT ?_⟩
          refine ⟨_, rfl, _, _, rfl, rfl, .inr ⟨_, rfl, ?_⟩⟩
          refine ⟨l2, _, _, rfl, rfl, upd_same, by split <;> decide, by split <;> decide, ?_, fun p3 np3 => ?_⟩
          · split
            · exact (show 1 * 1 ≤ sizeLine by decide)
            · exact (show 1 * 0 ≤ sizeLine by decide)
          refine ⟨_, rfl, _, rfl, rfl, .inr ⟨_, rfl, ?_⟩⟩
          refine ⟨_, _, rfl, rfl, wide_mul hu.2 (show Int.natAbs _ < 2 ^ 1 by decide) (by omega) (by decide) (by omega), ?_⟩
          refine ⟨by show 2 ≤ sizeLine; decide, fun t nt => ?_⟩
          by_cases hU : 0 < U
          · have hne : ¬ U = 0 := by omega
            have e1 : (List.replicate (if decide (0 < U) = true then (1 : Int) else 0).toNat [V.ref g]).flatten = [V.ref g] := by
              rw [decide_eq_true hU]
              rfl
            rw [e1] at nt ⊢
            have s5 := same_upd (o := .lst [.ref g]) np3
            have s6 := same_upd (o := .tup [.ref p3, .int (U * 0)]) nt
            refine q _ _ ((((sm.trans s3).trans s4).trans s5).trans s6) ?_
            rw [if_neg hne]
            refine ⟨t, p3, [.ref g], rfl, (((sm.trans s3).trans s4).trans s5).free nt, ((sm.trans s3).trans s4).free np3, ?_, s6 _ _ upd_same, .cons ⟨g, rfl, s6 _ _ (s5 _ _ (s4 _ _ upd_same))⟩ .nil⟩
            refine upd_same.trans ?_
            show some (HO.tup [V.ref p3, V.int (U * 0)]) = _
            rw [Int.mul_zero]
          · have hz : U = 0 := by
              have := hu.1
              omega
            subst hz
            have s5 := same_upd (o := .lst (List.replicate (if decide ((0 : Int) < 0) = true then (1 : Int) else 0).toNat [V.ref g]).flatten) np3
            have s6 := same_upd (o := .tup [.ref p3, .int (0 * 0)]) nt
            refine q _ _ ((((sm.trans s3).trans s4).trans s5).trans s6) ?_
            rw [if_pos rfl]
            exact ⟨t, p3, [], rfl, (((sm.trans s3).trans s4).trans s5).free nt, ((sm.trans s3).trans s4).free np3, upd_same, s6 _ _ upd_same, .nil⟩
        · -- N
          have eT := eTot (.cr 0 0 1) after_n
          rw [eT]
          have hu := units_ok hs (f := .cr 0 0 1) (stepF_ok (c := 78) hc hn0)
          have eR : runAfter r (stepF 78) = ([], units r (.cr 0 0 1)) := by
            show (([] : List (Int × Int)), 1 * units r (.cr 0 0 1)) = _
            rw [Int.one_mul]
          rw [eR] at q
          generalize units r (.cr 0 0 1) = U at hu q
          refine ⟨_, rfl, by show 2 ≤ sizeLine; decide, fun g ng => ⟨by show 1 ≤ sizeLine; decide, fun l2 nl2 => ?_⟩⟩
          have s3 := same_upd (o := .tup [.int U, .int 0]) ng
          have s4 := same_upd (o := .lst [.ref g]) nl2
          refine ⟨_, rfl, rfl, _, rfl, iteF ?_⟩
          refine .inr ⟨_, rfl, ?_⟩
          refine ⟨l2, _, _, rfl, rfl, upd_same, by decide, by decide, (show 1 * 0 ≤ sizeLine by decide), fun p3 np3 => ?_⟩
          refine ⟨_, rfl, _, rfl, rfl, .inr ⟨_, rfl, ?_⟩⟩
          refine ⟨_, _, rfl, rfl, wide_mul hu.2 (show Int.natAbs _ < 2 ^ 1 by decide) (by omega) (by decide) (by omega), ?_⟩
          refine ⟨by show 2 ≤ sizeLine; decide, fun t nt => ?_⟩
          have s5 := same_upd (o := .lst []) np3
          have s6 := same_upd (o := .tup [.ref p3, .int (U * 1)]) nt
          refine q _ _ ((((sm.trans s3).trans s4).trans s5).trans s6) ?_
          refine ⟨t, p3, [], rfl, (((sm.trans s3).trans s4).trans s5).free nt, ((sm.trans s3).trans s4).free np3, ?_, s6 _ _ upd_same, .nil⟩
          refine upd_same.trans ?_
          show some (HO.tup [V.ref p3, V.int (U * 1)]) = _
          rw [Int.mul_one]
    · have e : (if false = true then !inV (.str ⟨#[c]⟩) [.str "M", .str "N"] else inV (.str ⟨#[c]⟩) [.str "M", .str "N"]) = false := by
        have : c = 85 ∨ c = 68 := by omega
        rcases this with rfl | rfl <;> decide +kernel
      rw [e]
      refine iteF ?_
      have hUD : c = 85 ∨ c = 68 := by omega
      have hkeep : ∃ b a, stepF c = .keep b a := by
        rcases hUD with rfl | rfl
        · exact ⟨0, 1, rfl⟩
        · exact ⟨1, 0, rfl⟩
      have hr2 : runAfter r (stepF c) = (Lx.merged (moved (stepF c) r.1), r.2) := by
        obtain ⟨b, a, e⟩ := hkeep
        rw [e]
        rfl
      rw [hr2] at q
      refine ⟨Nat.zero_le _, fun l2 nl2 => ?_⟩
      have s1 := s0.trans (same_upd (o := .lst []) nl2)
      refine ⟨_, rfl, l, rfl, ⟨_, s1.seq hL⟩, ?_⟩
      have nl0 := s0.free nl2
      refine for_it (walk_list (xs := xs)) (fun i σ H' => Same H H' ∧ ∃ (y5 y6 : Option V) (fs : List V), σ = [some (.ref p), some (.str ⟨#[c]⟩), some (.ref l), some (.int r.2), none, y5, y6, some (.ref l2)] ∧ H' l2 = some (.lst fs) ∧ Prs K H' fs (Lx.merged ((moved (stepF c) r.1).take i)) ∧ fs.length ≤ i)
        ⟨s1, none, none, [], rfl, upd_same, .nil, Nat.le_refl _⟩ (fun i σ H' _ hQ => hQ.1.seq hL) ?_ ?_
      · rintro i u σ H1 H2 hi ⟨sm, y5, y6, fs, rfl, hp, hfs, hfl⟩ ⟨rfl, hu⟩
        obtain ⟨x, hx, a, rfl, ha'⟩ := hP.get hu
        obtain ⟨x1, x2, x3, x4⟩ := hs.1 x (List.mem_of_getElem? hx)
        have hxm : (moved (stepF c) r.1)[i]? = some (x.1, (stepF c).after x.2) := by
          unfold moved
          rw [List.getElem?_map, hx]
          rfl
        have htk : Lx.merged ((moved (stepF c) r.1).take (i + 1)) = addTo (Lx.merged ((moved (stepF c) r.1).take i)) (x.1, (stepF c).after x.2) := by
          unfold Lx.merged
          rw [List.take_succ, hxm, List.foldl_append]
          rfl
        refine ⟨a, _, rfl, .inl (.inl (sm _ _ ha')), rfl, _, _, rfl, _, _, rfl, rfl, ?_⟩
        -- returns
        have ret : ∀ (D : Ends) (tb : TS), tb D [some (.ref p), some (.str ⟨#[c]⟩), some (.ref l), some (.int r.2), none, some (.int x.1), some (.int ((stepF c).after x.2)), some (.ref l2)] H2 →
            tSeq (tAsg (tIf (tTest (tOp rEq (tVar 1) (tC (V.str (Str.ofString "U"))))) (tOp (rI0 fun i j => V.int (i + j)) (tVar 6) (tC (V.int 1))) (tOp (rI0 fun i j => V.int (i - j)) (tCB (fun xs H Q => ∃ i j, xs = [V.int i, V.int j] ∧ Q (V.int (if j > i then j else i)) H) (tCons (tC (V.int 1)) (tCons (tVar 6) tNil))) (tC (V.int 1)))) (gName 6)) tb D
              [some (.ref p), some (.str ⟨#[c]⟩), some (.ref l), some (.int r.2), none, some (.int x.1), some (.int x.2), some (.ref l2)] H2 := fun D tb h => by
          rcases hUD with rfl | rfl
          · refine ⟨_, rfl, rfl, _, rfl, iteT ⟨_, rfl, _, _, rfl, rfl, ?_⟩⟩
            have e : (stepF 85).after x.2 = x.2 + 1 := by
              show (if x.2 - 0 > 0 then x.2 - 0 else 0) + 1 = _
              split <;> omega
            rw [e] at h
            exact h
          · refine ⟨_, rfl, rfl, _, rfl, iteF ⟨_, rfl, _, _, rfl, _, _, rfl, rfl, ?_⟩⟩
            have e : (stepF 68).after x.2 = (if x.2 > 1 then x.2 else 1) - 1 := by
              show (if x.2 - 1 > 0 then x.2 - 1 else 0) + 0 = _
              split <;> split <;> omega
            rw [e] at h
            exact h
        refine ret _ _ ?_
        generalize (stepF c).after x.2 = ret at htk
        -- the last one has as many
        have fin : ∀ (m : Int) (ws : List V) (hs : List (Int × Int)) (H3 : Hp), Same H H3 → H3 l2 = some (.lst ws) → Prs K H3 ws hs → ws.length ≤ i → hs ++ [(m, ret)] = Lx.merged ((moved (stepF c) r.1).take (i + 1)) → ∀ t, H3 t = none →
            Same H (upd (upd H3 t (.tup [.int m, .int ret])) l2 (.lst (ws ++ [.ref t]))) ∧ ∃ (y5 y6 : Option V) (fs : List V), [some (V.ref p), some (.str ⟨#[c]⟩), some (.ref l), some (.int r.2), none, some (.int m), some (.int ret), some (.ref l2)] = [some (.ref p), some (.str ⟨#[c]⟩), some (.ref l), some (.int r.2), none, y5, y6, some (.ref l2)] ∧
              (upd (upd H3 t (.tup [.int m, .int ret])) l2 (.lst (ws ++ [.ref t]))) l2 = some (.lst fs) ∧ Prs K (upd (upd H3 t (.tup [.int m, .int ret])) l2 (.lst (ws ++ [.ref t]))) fs (Lx.merged ((moved (stepF c) r.1).take (i + 1))) ∧ fs.length ≤ i + 1 := fun m ws hs H3 s3 h3 hw hl e t nt => by
          have s4 := same_upd (o := .tup [.int m, .int ret]) nt
          refine ⟨Same.own (s3.trans s4) nl0, _, _, ws ++ [.ref t], rfl, upd_same, ?_, by rw [List.length_append]; exact Nat.add_le_add_right hl 1⟩
          rw [← e]
          exact Prs.lstUpd (s4 _ _ h3) ((hw.same s4).append (.cons ⟨t, rfl, upd_same⟩ .nil))
        have hl1000 : i < 1000 := by
          have := hP.len
          have := hs.2.2.2
          omega
        refine if_by (sameEnd (Lx.merged ((moved (stepF c) r.1).take i)) ret) (fun H' => Same H2 H') (fun R hR => ?_) (fun H3 s3 => ?_)
        · refine ⟨_, rfl, Nat.zero_le _, fun pz npz => ?_⟩
          have s3 := same_upd (o := .lst []) npz
          have hfs3 := hfs.same s3
          refine ⟨.list (pd _), .list [], .lst (.inl (.inl (s3 _ _ hp))) (Prs.dp hfs3), .lst (.inl (.inl upd_same)) .nil, pd_shaped _, by decide, _, rfl, ?_⟩
          have hR3 := hR _ s3
          rcases snoc_or (Lx.merged ((moved (stepF c) r.1).take i)) with e0 | ⟨as, y, e0⟩
          · rw [e0] at hR3 ⊢
            exact iteF hR3
          · rw [e0] at hR3 hfs3 ⊢
            have ee : PyData.eqv (.list (pd (as ++ [y]))) (.list []) = false := by
              cases as <;> rfl
            rw [ee]
            obtain ⟨ws, v, rfl, hw, a2, rfl, ha2⟩ := Prs.back hfs3
            refine iteT ⟨_, rfl, 1, rfl, l2, _, -1, _, rfl, rfl, .inl (.inl (s3 _ _ hp)), atI_last ws (.ref a2), a2, _, 1, _, rfl, rfl, .inl (.inl ha2), atI_nat (j := 1) rfl, _, rfl, rfl, _, rfl, ?_⟩
            rw [sameEnd_snoc] at hR3
            by_cases ey : y.2 = ret
            · rw [decide_eq_true ey] at hR3
              rw [decide_eq_true (show V.int y.2 = V.int ret by rw [ey])]
              exact hR3
            · rw [decide_eq_false ey] at hR3
              rw [decide_eq_false (fun z => ey (V.int.inj z))]
              exact hR3
        · have hp3 := s3 _ _ hp
          have hfs3 := hfs.same s3
          have sm3 := sm.trans s3
          by_cases hc2 : sameEnd (Lx.merged ((moved (stepF c) r.1).take i)) ret = true
          · rw [hc2]
            rcases snoc_or (Lx.merged ((moved (stepF c) r.1).take i)) with e0 | ⟨as, y, e0⟩
            · rw [e0] at hc2
              cases hc2
            · rw [e0] at hc2 hfs3 htk
              rw [sameEnd_snoc] at hc2
              have ey := of_decide_eq_true hc2
              obtain ⟨ws, v, rfl, hw, a2, rfl, ha2⟩ := Prs.back hfs3
              have na2 : a2 ≠ l2 := ne_of ha2 hp3 (by intro z; cases z)
              refine iteT ⟨_, rfl, _, rfl, .inl ⟨rfl, _, .inl (.inl hp3)⟩, l2, _, .ref a2, rfl, rfl, hp3, by simp, ?_⟩
              rw [List.dropLast_concat]
              have hp4 : upd H3 l2 (.lst ws) l2 = some (.lst ws) := upd_same
              have ha4 : upd H3 l2 (.lst ws) a2 = some (.tup [.int y.1, .int y.2]) := by rw [upd_ne na2]; exact ha2
              refine ⟨a2, _, 0, _, rfl, rfl, .inl (.inl ha4), atI_nat (j := 0) rfl, _, _, rfl, rfl, ?_⟩
              refine ⟨_, rfl, .inl ⟨rfl, _, .inl (.inl hp4)⟩, _, rfl, _, rfl, by show 2 ≤ sizeLine; decide, fun t nt => ?_⟩
              have hwl : ws.length ≤ i := by
                simp only [List.length_append, List.length_cons, List.length_nil] at hfl
                omega
              refine ⟨l2, _, .ref t, rfl, rfl, same_upd nt _ _ hp4, by rw [sizeLine_eq]; omega, ?_⟩
              refine fin (x.1 + y.1) ws as _ (Same.own sm3 nl0) hp4 (Prs.lstUpd hp3 hw) hwl ?_ t nt
              rw [htk, addTo_snoc, if_pos ey, Int.add_comm]
          · rw [Bool.eq_false_iff.mpr hc2]
            refine iteF ⟨_, rfl, .inl ⟨rfl, _, .inl (.inl hp3)⟩, _, rfl, _, rfl, by show 2 ≤ sizeLine; decide, fun t nt => ?_⟩
            refine ⟨l2, _, .ref t, rfl, rfl, same_upd nt _ _ hp3, by rw [sizeLine_eq]; omega, ?_⟩
            refine fin x.1 fs _ _ sm3 hp3 hfs3 hfl ?_ t nt
            rcases snoc_or (Lx.merged ((moved (stepF c) r.1).take i)) with e0 | ⟨as, y, e0⟩
            · rw [e0] at htk ⊢
              rw [htk]; rfl
            · rw [e0] at hc2 htk ⊢
              rw [htk, addTo_snoc, if_neg (fun z => hc2 (by rw [sameEnd_snoc]; exact decide_eq_true z))]
      · rintro σ H2 ⟨sm2, y5, y6, fs, rfl, hp, hfs, hfl⟩
        rw [List.take_of_length_le (by unfold moved; rw [List.length_map, ← hP.len]; exact Nat.le_refl _)] at hfs
        refine ⟨_, rfl, _, rfl, by show 2 ≤ sizeLine; decide, fun t nt => ?_⟩
        have s3 := same_upd (o := .tup [.ref l2, .int r.2]) nt
        exact q _ _ (sm2.trans s3) ⟨t, l2, fs, rfl, sm2.free nt, nl0, upd_same, s3 _ _ hp, hfs.same s3⟩
abbrev nLSize : List Str := ["piece", "groups", "rest", "many", "returns"]
theorem scLSize : FnScope nLSize ["piece"] (defScope sLSize) := ⟨rfl, rfl, rfl, by decide +kernel, rfl, by decide +kernel, by decide +kernel⟩
def spLSize (K : PySem.W.Frag) : Sp := fun vs H Q _ => ∃ x l r n, vs = [x] ∧ RnAt K H x l r ∧ RnSm n r ∧ 0 < n ∧ n ≤ 100000 ∧ ∀ H', Same H H' → Q (.int (units r nothing)) H'
structure LsF (mg : Str → Option Value) : Prop where
  sum : mg "sum" = none
theorem totE_nothing {n : Nat} {r : List (Int × Int) × Int} (h : RnSm n r) : (r.1.map fun x => x.1 * x.2 + x.1).sum + r.2 = units r nothing := by
  rw [← units_nothing h]
  congr 2
  refine List.map_congr_left fun x _ => ?_
  rw [Int.mul_add, Int.mul_one]
theorem ok_lsize {f : Addr} {fd : FuncData} {k : Nat} (F : Fun K "_law_size" "_law_size" sLSize f fd) (Z : LsF mg) : FnOk P w K mg base CX0 (k + 1) f fd ["piece"] (spLSize K) := by
  refine F.ok scLSize (fun vs H Q E h => ?_) (fun cdv A outer s H vs Q E hr h => ?_)
  · obtain ⟨x, l, r, n, rfl, _⟩ := h
    rfl
  · obtain ⟨_, l, r, n, rfl, ⟨p, rfl, hT, xs, hL, hP⟩, hs, hn0, hn, q⟩ := h
    refine ⟨_, (pss_cons (ps_asg (pv 0) (pg_tup (by rfl) (pgs_cons (pg_name (i := 1) scLSize.nd rfl (.inl rfl)) (pgs_cons (pg_name (i := 2) scLSize.nd rfl (.inl rfl)) pgs_nil))))
      (pss_one (ps_ret (pe_op op_add (pe_callB (cr_sum rfl) (by rfl) Z.sum (by decide +kernel) (pa_cons (pe_lc (own := [("many", 3), ("returns", 4)]) (g := (gTup K 2 (gCons (gName 3) (gCons (gName 4) gNil)))) (tt := tYes) rfl scLSize.nd (pi_list (pv 1)) (blkOk_by (own := [("many", 3), ("returns", 4)]) (N := ["piece", "groups", "rest", "many", "returns"]) (sc := defScope sLSize) (by decide +kernel)) (fun _ _ _ _ _ => (pg_tup (by rfl) (pgs_cons (pg_name (i := 3) scLSize.nd rfl (.inl rfl)) (pgs_cons (pg_name (i := 4) scLSize.nd rfl (.inl rfl)) pgs_nil)))) (fun _ _ _ _ _ => pts_nil) (fun _ _ _ _ _ => (pe_op op_add (pe_op op_mulW (pv 3) (pv 4)) (pv 3)))) pa_nil)) (pv 2))))), ?_⟩
    refine ⟨_, rfl, p, _, rfl, hT, rfl, _, _, rfl, _, _, rfl, rfl, ?_⟩
    refine ⟨_, rfl, l, rfl, ⟨_, hL⟩, fun D nD => ?_⟩
    refine lc_it (walk_list (xs := xs)) (fun i H' => Same H H' ∧ H' D = some (.lst (((r.1.take i).map fun x => x.1 * x.2 + x.1).map V.int))) ⟨same_upd nD, upd_same⟩ (fun i H' _ hQ => hQ.1.seq hL) ?_ ?_
    · rintro i u H1 H2 hi ⟨sm, hD⟩ ⟨rfl, hu⟩
      obtain ⟨x, hx, a, rfl, ha'⟩ := hP.get hu
      obtain ⟨x1, x2, x3, x4⟩ := hs.1 x (List.mem_of_getElem? hx)
      refine ⟨a, _, rfl, .inl (.inl (sm _ _ ha')), rfl, _, _, rfl, _, _, rfl, rfl, rfl, ?_⟩
      refine ⟨_, rfl, _, rfl, _, _, rfl, rfl, wide_mul x3 x4 hn0 hn0 (by omega), _, rfl, _, _, rfl, rfl, ?_⟩
      refine ⟨_, hD, ?_, Same.own sm nD, ?_⟩
      · have := hs.2.2.2
        rw [List.length_map, List.length_map, List.length_take, sizeLine_eq]
        omega
      · rw [upd_same, List.take_succ, hx, List.map_append, List.map_append]
        rfl
    · rintro H1 ⟨sm, hD⟩
      rw [List.take_of_length_le (by rw [← hP.len]; exact Nat.le_refl _)] at hD
      refine ⟨D, _, rfl, .inl (.inl hD), _, rfl, _, _, rfl, rfl, ?_⟩
      show Q (.int ((r.1.map fun x => x.1 * x.2 + x.1).sum + r.2)) H1
      rw [totE_nothing hs]
      exact q _ sm
end
end Lw
namespace Lw
open PySem PySem.Spec L2 Lx
theorem scLRight : FnScope ["rng", "piece", "some", "kept", "due", "here", "step", "told", "cut", "again"] ["rng", "piece", "some"] (defScope sLRight) := ⟨rfl, rfl, rfl, by decide +kernel, rfl, by decide +kernel, by decide +kernel⟩
def spLRight (K : PySem.W.Frag) : Sp := fun vs H Q _ => ∃ (r : Addr) (n : Nat) (x : V) (l : Addr) (g : List (Int × Int) × Int) (c : Str), vs = [.ref r, x, .str c] ∧ RngAt H r n ∧ n < 900000000 ∧ RnS K H x l g ∧ l ≠ r ∧ RnOk 100 g ∧ g.1.length ≤ 100 ∧ ChOk c ∧ c.cps.size ≤ 60 ∧
  ∀ H', RngAt H' r (n + 1) → Q (.bl true) H'
structure LrF (mg : Str → Option Value) : Prop where
  repr : mg "repr" = none
  len : mg "len" = none
theorem one_ch {c : Nat} (h : c ∈ steps.cps.toList) : ChOk ⟨#[c]⟩ := fun d hd => by
  have : d = c := by simpa using hd
  rw [this]
  exact h
section
variable {P : Program} {w : World} {K : PySem.W.Frag} {mg : Str → Option Value} {base : Heap}
theorem ok_lright {f aA aV aZ aS aD : Addr} {fd dA dV dZ dS dD : FuncData} {k : Nat} (F : Fun K "_law_right" "_law_right" sLRight f fd) (Z : LrF mg)
    (cA : Cl P w K mg base k "_law_after" ["piece", "step"] (spLAfter K) aA dA)
    (cV : Cl P w K mg base k "convert_run" ["run", "chain"] (spConv K) aV dV) (kcV : KBinds K dV ["run", "chain"] ["chain", "run"] (g21 Value) (g21 V))
    (cZ : Cl P w K mg base k "size" ["run"] (spSize K) aZ dZ) (kcZ : KBinds K dZ ["run"] ["run"] (g1 Value) (g1 V))
    (cS : Cl P w K mg base k "_law_size" ["piece"] (spLSize K) aS dS)
    (cD : Cl P w K mg base k "_law_draw" ["rng", "limit"] spDraw aD dD) : FnG P w K mg base CX0 (k + 1) f fd ["rng", "piece", "some"] (spLRight K) := by
  refine okG F scLRight (fun vs H Q E h => ?_) (fun cdv A outer s H vs Q E hr hg h => ?_)
  · obtain ⟨r, n, x, l, g, c, rfl, _⟩ := h
    rfl
  · obtain ⟨r, n, x, l, g, c, rfl, hR, hn, hx, hlr, hgo, hgl, hc, hcl, q⟩ := h
    refine ⟨_, PSs.nox (pss_cons (ps_par3 (i := 3) (j := 4) (l := 5) rfl scLRight.nd rfl rfl rfl (by decide) (by decide) (by decide) rfl rfl rfl (pa_cons (pe_callB (call_reprD hg hr.units) (by rfl) Z.repr (by decide +kernel) (pa_cons (pv 1) pa_nil)) (pa_cons (pv 1) (pa_cons (pv 1) pa_nil))) rfl)
      (pss_cons (ps_for PassesOwn.never rfl (pi_str (pv 2)) (pg_name (i := 6) scLRight.nd rfl (.inl rfl))
          (pss_cons (ps_par (i := 4) (j := 5) rfl scLRight.nd rfl rfl (by decide) rfl rfl (pa_cons (pe_call cA.G hr (by rfl) cA.g cA.kp cA.b .nil pass0 (pa_cons (pv 4) (pa_cons (pv 6) pa_nil))) (pa_cons (pe_call cV.G hr (by rfl) cV.g cV.kp cV.b .nil pass0 (pa_cons (pv 5) (pa_cons (pv 6) pa_nil))) pa_nil)) rfl)
          (pss_one (ps_if (PW.pt (pw_or (pt_cmpR op_ne (pe_callB (call_reprD hg hr.units) (by rfl) Z.repr (by decide +kernel) (pa_cons (pv 5) pa_nil)) (pe_callB (call_reprD hg hr.units) (by rfl) Z.repr (by decide +kernel) (pa_cons (pv 4) pa_nil)) (nomark _)) (pw_or1 (pt_cmpR op_ne (pe_callB (call_reprD hg hr.units) (by rfl) Z.repr (by decide +kernel) (pa_cons (pe_call cZ.G hr (by rfl) cZ.g cZ.kp cZ.b .nil pass0 (pa_cons (pv 5) pa_nil)) pa_nil)) (pe_callB (call_reprD hg hr.units) (by rfl) Z.repr (by decide +kernel) (pa_cons (pe_call cS.G hr (by rfl) cS.g cS.kp cS.b .nil pass0 (pa_cons (pv 4) pa_nil)) pa_nil)) (nomark _)))))
              (pss_one (ps_ret pe_bl)) pss_nil))))
      (pss_cons (ps_set (i := 7) scLRight.nd rfl (.inl rfl) (pe_lst (pa_cons (pe_call cV.G hr (by rfl) cV.g cV.kp cV.b .nil pass0 (pa_cons (pv 1) (pa_cons (pv 2) pa_nil))) (pa_cons (pe_callK0 cV.G hr (by rfl) cV.g cV.kp kcV pass0 (pk_cons (pv 2) (pk_cons (pv 1) pk_nil))) pa_nil))))
      (pss_cons (ps_if (PW.pt (pw_or (pt_cmpR op_ne (pe_callB (call_reprD hg hr.units) (by rfl) Z.repr (by decide +kernel) (pa_cons (pv 7) pa_nil)) (pe_callB (call_reprD hg hr.units) (by rfl) Z.repr (by decide +kernel) (pa_cons (pe_lst (pa_cons (pv 4) (pa_cons (pv 4) pa_nil))) pa_nil)) (nomark _)) (pw_or1 (pt_cmpR op_ne (pe_callK0 cZ.G hr (by rfl) cZ.g cZ.kp kcZ pass0 (pk_cons (pv 5) pk_nil)) (pe_call cS.G hr (by rfl) cS.g cS.kp cS.b .nil pass0 (pa_cons (pv 4) pa_nil)) (nomark _)))))
          (pss_one (ps_ret pe_bl)) pss_nil)
      (pss_cons (ps_expr (pe_bm PySem.F.plainAttrs_list PySem.F.slot_list_append PySem.F.type_list_append mt_append (pe_ix ix_tup (pe_ix ix_list (pv 7) pe_int (fun _ _ => rfl)) pe_int (fun _ _ => rfl)) (pa_cons (pe_tup (pa_cons pe_int (pa_cons pe_int pa_nil))) pa_nil)))
      (pss_cons (ps_set (i := 8) scLRight.nd rfl (.inl rfl) (pe_call cD.G hr (by rfl) cD.g cD.kp cD.b .nil pass0 (pa_cons (pv 0) (pa_cons (pe_op op_add (pe_callB call_len_str (by rfl) Z.len PySem.boot_len (pa_cons (pv 2) pa_nil)) pe_int) pa_nil))))
      (pss_cons (ps_set (i := 9) scLRight.nd rfl (.inl rfl) (pe_call cV.G hr (by rfl) cV.g cV.kp cV.b .nil pass0 (pa_cons (pe_call cV.G hr (by rfl) cV.g cV.kp cV.b .nil pass0 (pa_cons (pv 1) (pa_cons (pe_slice sl_str (pv 2) po_none (po_some (pv 8))) pa_nil))) (pa_cons (pe_slice sl_str (pv 2) (po_some (pv 8)) po_none) pa_nil))))
      (pss_one (ps_ret (pe_and (pe_cmpR op_eq (pe_callB (call_reprD hg hr.units) (by rfl) Z.repr (by decide +kernel) (pa_cons (pe_lst (pa_cons (pe_ix ix_list (pv 7) pe_int (fun _ _ => rfl)) (pa_cons (pv 9) pa_nil))) pa_nil)) (pe_callB (call_reprD hg hr.units) (by rfl) Z.repr (by decide +kernel) (pa_cons (pe_lst (pa_cons (pv 4) (pa_cons (pv 4) pa_nil))) pa_nil)) (nomark _)) (pe_one (pe_cmpR op_eq (pe_callB (call_reprD hg hr.units) (by rfl) Z.repr (by decide +kernel) (pa_cons (pv 1) pa_nil)) (pv 3) (nomark _))))))))))))), ?_⟩
    have hcs : ∀ i, ∀ d ∈ c.cps.toList.take i, d ∈ steps.cps.toList := fun i d hd => hc d (List.mem_of_mem_take hd)
    have hun : ∀ i, Sm 1900 (units (stepsL g (c.cps.toList.take i)) nothing) := fun i => stepsL_units hgo (by decide) (by rw [List.length_take, Array.length_toList]; omega) (hcs i)
    have hst : ∀ i, RnOk 1123 (stepsL g (c.cps.toList.take i)) ∧ (stepsL g (c.cps.toList.take i)).1.length ≤ 1000 := fun i => by
      have hle : (c.cps.toList.take i).length ≤ 60 := by
        rw [List.length_take, Array.length_toList]
        omega
      have h := stepsL_ok hgo (by decide) hle (hcs i)
      exact ⟨h.1, by omega⟩
    refine ⟨_, rfl, x, rd g, rfl, hx.dq.dp, rd_fit (hgo.mono (by decide)) (by omega), _, rfl, _, rfl, _, _, _, rfl, ?_⟩
    refine ⟨_, rfl, c, rfl, ?_⟩
    refine for_it walk_str (fun i σ H' => Same H H' ∧ ∃ due here ld lh y6, σ = [some (.ref r), some x, some (.str c), some (.str (rd g).shown), some due, some here, y6, none, none, none] ∧ RnS K H' due ld (stepsL g (c.cps.toList.take i)) ∧ RnS K H' here lh (stepsL g (c.cps.toList.take i)) ∧ ld ≠ r)
      ⟨Same.refl H, x, x, l, l, none, rfl, hx, hx, hlr⟩ (fun _ _ _ _ _ => trivial) ?_ ?_
    · rintro i u σ H1 H2 hi ⟨sm, due, here, ld, lh, y6, rfl, hd, hh, hldr⟩ ⟨rfl, ch, hch, rfl⟩
      have hcm : ch ∈ c.cps.toList := by rw [Array.mem_toList_iff]; exact Array.mem_of_getElem? hch
      have hst1 := hst i
      have hst2 := hst (i + 1)
      have hun2 := hun (i + 1)
      have htk : c.cps.toList.take (i + 1) = c.cps.toList.take i ++ [ch] := by
        rw [List.take_succ]
        have : c.cps.toList[i]? = some ch := by rw [Array.getElem?_toList]; exact hch
        rw [this]
        rfl
      rw [htk, stepsL_snoc] at hst2 hun2 ⊢
      generalize stepsL g (c.cps.toList.take i) = gi at hd hh hst1 hst2 hun2
      refine ⟨_, rfl, _, rfl, due, ld, gi, ch, 1123, rfl, hd.rn, hc _ hcm, RnOk.sm hst1.1, by decide, by decide, fun v1 H3 s3 hv1 => ?_⟩
      refine ⟨_, rfl, _, rfl, here, lh, gi, ⟨#[ch]⟩, 1123, rfl, (hh.same s3).rn, hst1.1, one_ch (hc _ hcm), by show 1 ≤ 7000; decide, by decide, fun v2 H4 s4 hv2 => ?_⟩
      obtain ⟨l1, nl1, hR1⟩ := hv1.s
      rw [conv_of hst1.1] at hv2
      obtain ⟨l2, nl2, hR2⟩ := hv2.s
      replace hR2 : RnS K H4 v2 l2 (runAfter gi (stepF ch)) := hR2
      replace hR1 := hR1.same s4
      have hldr2 : l1 ≠ r := (hR.same sm).ne nl1
      replace sm := (sm.trans s3).trans s4
      generalize runAfter gi (stepF ch) = gj at hR1 hR2 hst2 hun2
      have fj := rd_fit hst2.1 hst2.2
      refine ⟨_, _, rfl, ?_⟩
      refine ⟨_, rfl, v2, rd gj, rfl, hR2.dq.dp, fj, _, rfl, v1, rd gj, rfl, hR1.dq.dp, fj, rfl, _, rfl, ?_⟩
      rw [decide_eq_true rfl]
      refine iteF ?_
      refine ⟨_, rfl, v2, l2, gj, 1123, rfl, hR2.rn, hst2.1, by decide, fun H5 s5 => ?_⟩
      refine ⟨_, .int _, rfl, .int _, int_fit hun2, _, rfl, v1, l1, gj, 1123, rfl, (hR1.same s5).rn, RnOk.sm hst2.1, by decide, by decide, fun H6 s6 => ?_⟩
      refine ⟨_, .int _, rfl, .int _, int_fit hun2, rfl, _, rfl, ?_⟩
      rw [decide_eq_true rfl]
      exact iteF ⟨(sm.trans s5).trans s6, v1, v2, l1, l2, _, rfl, (hR1.same s5).same s6, (hR2.same s5).same s6, hldr2⟩
    · rintro σ H1 ⟨sm, due, here, ld, lh, y6, rfl, hd, hh, hldr⟩
      have hall : c.cps.toList.take c.cps.size = c.cps.toList := List.take_of_length_le (by simp)
      have hst0 := hst c.cps.size
      rw [hall] at hd hh hst0
      have hcv := conv_of hgo c
      have hxs : c.cps.size ≤ 7000 := by omega
      replace hx := hx.same sm
      replace hR := hR.same sm
      -- told
      refine ⟨_, rfl, _, rfl, x, l, g, c, 100, rfl, hx.rn, hgo, hc, hxs, by decide, fun v1 H3 s3 hv1 => ?_⟩
      rw [hcv] at hv1
      obtain ⟨l1, nl1, hR1⟩ := hv1.s
      refine ⟨_, rfl, _, rfl, x, l, g, c, 100, rfl, (hx.same s3).rn, hgo, hc, hxs, by decide, fun v2 H4 s4 hv2 => ?_⟩
      rw [hcv] at hv2
      obtain ⟨l2, nl2, hR2⟩ := hv2.s
      have hd1 : ld ≠ l1 := hd.ne nl1
      have hx1 : l ≠ l1 := hx.ne nl1
      have h21 : l2 ≠ l1 := fun e => (hR1.ne nl2) e.symm
      have hl1r := hR.ne nl1
      have hl2r := (hR.same s3).ne nl2
      have hj : RnOk 1123 (stepsL g c.cps.toList) ∧ (stepsL g c.cps.toList).1.length ≤ 1000 := hst0
      have huj := hun c.cps.size
      rw [hall] at huj
      generalize hgj : stepsL g c.cps.toList = gj at hd hh hR1 hR2 hj huj
      have f2 := rd2_fit hj.1 hj.1 hj.2 hj.2
      refine ⟨by show 2 ≤ sizeLine; decide, fun La nLa => ?_⟩
      have s5 := same_upd (o := .lst [v1, v2]) nLa
      have hAl := (hR1.same s4).ne nLa
      have hLa : upd H4 La (.lst [v1, v2]) La = some (.lst [v1, v2]) := upd_same
      replace hR1 := (hR1.same s4).same s5
      replace hR2 := hR2.same s5
      replace hd := ((hd.same s3).same s4).same s5
      replace hh := ((hh.same s3).same s4).same s5
      replace hx := ((hx.same s3).same s4).same s5
      replace hR := ((hR.same s3).same s4).same s5
      show gName 7 _ _ (upd H4 La (.lst [v1, v2])) _
      generalize upd H4 La (.lst [v1, v2]) = H5 at hLa hR1 hR2 hd hh hx hR
      -- the same
      have hA : Dq K H5 (.ref La) (.list [rd gj, rd gj]) := .lst hLa (.cons hR1.dq (.cons hR2.dq .nil))
      refine ⟨_, rfl, .ref La, _, rfl, hA.dp, f2, _, rfl, _, rfl, by show 2 ≤ sizeLine; decide, fun Lb nLb => ?_⟩
      have s6 := same_upd (o := .lst [due, due]) nLb
      refine ⟨.ref Lb, .list [rd gj, rd gj], rfl, (Dq.lst upd_same (.cons (hd.same s6).dq (.cons (hd.same s6).dq .nil)) : Dq K _ _ _).dp, f2, rfl, _, rfl, ?_⟩
      rw [decide_eq_true rfl]
      refine iteF ?_
      refine ⟨_, rfl, here, lh, gj, 1123, rfl, (hh.same s6).rn, hj.1, by decide, fun H7 s7 => ?_⟩
      refine ⟨_, rfl, due, ld, gj, 1123, rfl, ((hd.same s6).same s7).rn, RnOk.sm hj.1, by decide, by decide, fun H8 s8 => ?_⟩
      refine ⟨rfl, _, rfl, ?_⟩
      rw [decide_eq_true rfl]
      refine iteF ?_
      have sA := (s6.trans s7).trans s8
      replace hLa := sA _ _ hLa
      replace hR1 := hR1.same sA
      replace hR2 := hR2.same sA
      replace hd := hd.same sA
      replace hx := hx.same sA
      replace hR := hR.same sA
      clear hh hA nLb s6 s7 s8 sA
      -- append
      obtain ⟨p1, xs1, rfl, hp1, hl1, hP1⟩ := hR1
      refine ⟨_, rfl, La, _, 0, _, rfl, rfl, .inl (.inl hLa), atI_nat (j := 0) rfl, p1, _, 0, _, rfl, rfl, .inl (.inl hp1), atI_nat (j := 0) rfl, .inl ⟨rfl, _, .inl (.inl hl1)⟩, by show 2 ≤ sizeLine; decide, fun t nt => ?_⟩
      have s21 := same_upd (o := .tup [.int 1, .int 1]) nt
      refine ⟨l1, _, .ref t, rfl, rfl, s21 _ _ hl1, by rw [hP1.len, sizeLine_eq]; have := hj.2; omega, ?_⟩
      have hl1b := s21 _ _ hl1
      have hR22 := (hR.same s21).own (o := .lst (xs1 ++ [.ref t])) hl1r
      have hx22 := (hx.same s21).upd (o := .lst (xs1 ++ [.ref t])) hl1b hx1
      have hd22 := (hd.same s21).upd (o := .lst (xs1 ++ [.ref t])) hl1b hd1
      have hLa22 := upd_keep (o1 := .tup [.int 1, .int 1]) (o2 := .lst (xs1 ++ [.ref t])) nt (Ne.symm hAl) hLa
      have hR222 := (hR2.same s21).upd (o := .lst (xs1 ++ [.ref t])) hl1b h21
      generalize upd (upd H8 t (.tup [.int 1, .int 1])) l1 (.lst (xs1 ++ [.ref t])) = H9 at hR22 hx22 hd22 hLa22 hR222
      -- cut
      have hLar : La ≠ r := by
        obtain ⟨d, s', c', q1, _⟩ := hR22
        intro e
        subst e
        rw [hLa22] at q1
        cases q1
      have hclen : c.length ≤ sizeLine := by
        rw [sizeLine_eq]
        show c.cps.size ≤ _
        omega
      refine ⟨_, rfl, _, rfl, c, rfl, hclen, _, _, rfl, rfl, r, n, (c.length : Int) + 1, rfl, hR22, by omega, by omega, ?_, fun v H10 v0 v1 hR10 hB => ?_⟩
      · exact Nat.lt_of_lt_of_le (show ((c.length : Int) + 1).natAbs < 2 ^ 7 by have : c.length = c.cps.size := rfl; omega) (Nat.pow_le_pow_right (by decide) (by decide))
      obtain ⟨kc, rfl⟩ : ∃ k : Nat, v = (k : Int) := ⟨v.toNat, (Int.toNat_of_nonneg v0).symm⟩
      have hkc : kc ≤ c.cps.size := by
        have : c.length = c.cps.size := rfl
        omega
      have hx10 := hx22.kq hR22 hB.kq hlr
      have hd10 := hd22.kq hR22 hB.kq hldr
      have hLa10 := hB.kq _ _ hLar hLa22
      have hR210 := hR222.kq hR22 hB.kq hl2r
      have hc1 : ChOk (cutS c none (some (kc : Int))) := fun d hd => hc d (by rw [cutS_head c kc hkc] at hd; exact List.mem_of_mem_take hd)
      have hc2 : ChOk (cutS c (some (kc : Int)) none) := fun d hd => hc d (by rw [cutS_tail c kc hkc] at hd; exact List.mem_of_mem_drop hd)
      have hl1' : (cutS c none (some (kc : Int))).cps.size ≤ 7000 := Nat.le_trans (cutS_length c none (some (kc : Int))) hxs
      have hl2' : (cutS c (some (kc : Int)) none).cps.size ≤ 7000 := Nat.le_trans (cutS_length c (some (kc : Int)) none) hxs
      refine ⟨_, rfl, _, rfl, _, rfl, kc, rfl, c, rfl, hclen, x, l, g, _, 100, rfl, hx10.rn, hgo, hc1, hl1', by decide, fun v3 H11 s11 hv3 => ?_⟩
      rw [conv_of hgo, cutS_head c kc hkc] at hv3
      obtain ⟨l3, nl3, hR3⟩ := hv3.s
      refine ⟨_, rfl, _, rfl, kc, rfl, c, rfl, hclen, v3, l3, _, _, 1123, rfl, hR3.rn, (hst kc).1, hc2, hl2', by decide, fun v4 H12 s12 hv4 => ?_⟩
      rw [conv_of (hst kc).1, cutS_tail c kc hkc, ← stepsL_append, List.take_append_drop, hgj] at hv4
      obtain ⟨l4, nl4, hR4⟩ := hv4.s
      have sB := s11.trans s12
      replace hR2 := hR210.same sB
      replace hd := hd10.same sB
      replace hx := hx10.same sB
      replace hLa := sB _ _ hLa10
      replace hR := hR10.same sB
      refine ⟨_, rfl, La, _, 1, _, rfl, rfl, .inl (.inl hLa), atI_nat (j := 1) rfl, _, rfl, by show 2 ≤ sizeLine; decide, fun Lc nLc => ?_⟩
      have s13 := same_upd (o := .lst [v2, v4]) nLc
      refine ⟨.ref Lc, .list [rd gj, rd gj], rfl, (Dq.lst upd_same (.cons (hR2.same s13).dq (.cons (hR4.same s13).dq .nil)) : Dq K _ _ _).dp, f2, _, rfl, _, rfl, by show 2 ≤ sizeLine; decide, fun Ld nLd => ?_⟩
      have s14 := same_upd (o := .lst [due, due]) nLd
      have sC := s13.trans s14
      refine ⟨.ref Ld, .list [rd gj, rd gj], rfl, (Dq.lst upd_same (.cons (hd.same sC).dq (.cons (hd.same sC).dq .nil)) : Dq K _ _ _).dp, f2, rfl, _, rfl, ?_⟩
      rw [decide_eq_true rfl]
      refine iteT ⟨_, rfl, x, rd g, rfl, (hx.same sC).dq.dp, rd_fit (hgo.mono (by decide)) (by omega), _, rfl, rfl, ?_⟩
      rw [decide_eq_true rfl]
      exact q _ (hR.same sC)
end
end Lw
namespace Lw
open PySem PySem.Spec L2 Lx
section
open TL
theorem joinL_nil : ∀ ls : List (List Nat), joinL [] ls = ls.flatten
  | [] => rfl
  | [a] => by simp [joinL]
  | a :: b :: r => by
    have := joinL_nil (b :: r)
    simp only [joinL, List.nil_append, List.flatten_cons] at this ⊢
    rw [this]
theorem join_none (ys : List Str) : (Txt.join "" ys).cps.toList = (ys.map fun y => y.cps.toList).flatten := by
  have e : tl (Txt.join "" ys) = joinL (tl "") (ys.map tl) := by rw [join_eq, tl_join]
  have e2 : tl "" = [] := rfl
  rw [e2, joinL_nil] at e
  exact e
end
theorem scLaw : FnScope ["script", "rng", "lap", "piece", "kind", "some", "told", "turn"] ["script"] (defScope sLaw) := ⟨rfl, rfl, rfl, by decide +kernel, rfl, by decide +kernel, by decide +kernel⟩
def spLaw (K : PySem.W.Frag) : Sp := fun vs H Q _ => ∃ (a : Addr) (ns : List Int), vs = [.ref a] ∧ SqL K H a (ns.map V.int) ∧ ns.length ≤ 63 ∧ ∀ H', Q (.bl true) H'
structure LwF (mg : Str → Option Value) : Prop where
  range : mg "range" = none
  min : mg "min" = none
  len : mg "len" = none
  repr : mg "repr" = none
/-- a def that is called where no guarded call runs -/
structure Cg (P : Program) (w : World) (K : PySem.W.Frag) (mg : Str → Option Value) (base : Heap) (k : Nat) (nm : Str) (ps : List Str) (sp : Sp) (f : Addr) (fd : FuncData) : Prop where
  G : FnG P w K mg base CX0 k f fd ps sp
  kp : PySem.W.keepIn K (.ref f) = true
  b : Binds K fd ps []
  g : mg nm = some (.ref f)
section
variable {P : Program} {w : World} {K : PySem.W.Frag} {mg : Str → Option Value} {base : Heap}
theorem ok_law {f aR aU aT aD aV : Addr} {fd dR dU dT dD dV : FuncData} {k : Nat} (F : Fun K "law" "law" sLaw f fd) (Z : LwF mg)
    (cR : Cl P w K mg base k "_law_rng" ["script"] (spRng K) aR dR)
    (cU : Cl P w K mg base k "_law_run" ["rng", "most"] (spLRun K) aU dU)
    (cT : Cg P w K mg base k "_law_right" ["rng", "piece", "some"] (spLRight K) aT dT)
    (cD : Cl P w K mg base k "_law_draw" ["rng", "limit"] spDraw aD dD)
    (cV : Cl P w K mg base k "convert_run" ["run", "chain"] (spConv K) aV dV) : FnG P w K mg base CX0 (k + 1) f fd ["script"] (spLaw K) := by
  refine okG F scLaw (fun vs H Q E h => ?_) (fun cdv A outer s H vs Q E hr hg h => ?_)
  · obtain ⟨a, ns, rfl, _⟩ := h
    rfl
  · obtain ⟨a, ns, rfl, hS, hlen, q⟩ := h
    refine ⟨_, PSs.nox (pss_cons (ps_set (i := 1) scLaw.nd rfl (.inr rfl) (pe_call cR.G hr (by rfl) cR.g cR.kp cR.b .nil pass0 (pa_cons (pv 0) pa_nil)))
      (pss_cons (ps_for PassesOwn.never rfl (pi_range1 rfl Z.range (pa_cons (pe_op op_add pe_int (pe_callB (call_min2 rfl) (by rfl) Z.min (by decide +kernel) (pa_cons pe_int (pa_cons (pe_callB call_len_seq (by rfl) Z.len PySem.boot_len (pa_cons (pv 0) pa_nil)) pa_nil)))) pa_nil)) (pg_name (i := 2) scLaw.nd rfl (.inl rfl))
          (pss_cons (ps_asg (pe_tup (pa_cons (pe_call cU.G hr (by rfl) cU.g cU.kp cU.b .nil pass0 (pa_cons (pv 1) (pa_cons (pe_ix ix_list (pe_lst (pa_cons pe_int (pa_cons pe_int (pa_cons pe_int pa_nil)))) (pe_call cD.G hr (by rfl) cD.g cD.kp cD.b .nil pass0 (pa_cons (pv 1) (pa_cons pe_int pa_nil))) (fun _ _ => rfl)) pa_nil))) (pa_cons (pe_call cD.G hr (by rfl) cD.g cD.kp cD.b .nil pass0 (pa_cons (pv 1) (pa_cons pe_int pa_nil))) pa_nil))) (pg_tup (by rfl) (pgs_cons (pg_name (i := 3) scLaw.nd rfl (.inl rfl)) (pgs_cons (pg_name (i := 4) scLaw.nd rfl (.inr rfl)) pgs_nil))))
          (pss_cons (ps_set (i := 5) scLaw.nd rfl (.inl rfl) (pe_join pe_str (pe_lc (own := [("turn", 7)]) (g := (gName 7)) (tt := tYes) rfl scLaw.nd (pi_range1 rfl Z.range (pa_cons (pe_call cD.G hr (by rfl) cD.g cD.kp cD.b .nil pass0 (pa_cons (pv 1) (pa_cons pe_int pa_nil))) pa_nil)) (blkOk_by (own := [("turn", 7)]) (N := ["script", "rng", "lap", "piece", "kind", "some", "told", "turn"]) (sc := defScope sLaw) (by decide +kernel)) (fun _ _ _ _ _ => (pg_name (i := 7) scLaw.nd rfl (.inl rfl))) (fun _ _ _ _ _ => pts_nil) (fun _ _ _ _ _ => (pe_ix ix_str (pe_ix (ix_l (K := K) rfl) (pe_lst (pa_cons pe_str (pa_cons pe_str (pa_cons pe_str pa_nil)))) (pv 4) (fun _ _ => rfl)) (pe_call cD.G hr (by rfl) cD.g cD.kp cD.b .nil pass0 (pa_cons (pv 1) (pa_cons pe_int pa_nil))) (fun _ _ => rfl))))))
          (pss_one (ps_if (pt_not (pt_val (pe_callG cT.G hg hr (by rfl) cT.g cT.kp cT.b .nil pass0 (pa_cons (pv 1) (pa_cons (pv 3) (pa_cons (pv 5) pa_nil))))))
              (pss_one (ps_ret pe_bl)) pss_nil)))))
      (pss_cons (ps_set (i := 3) scLaw.nd rfl (.inl rfl) (pe_tup (pa_cons (pe_lst (pa_cons (pe_tup (pa_cons pe_int (pa_cons pe_int pa_nil))) pa_nil)) (pa_cons pe_int pa_nil))))
      (pss_cons (ps_expr (pe_bm PySem.F.plainAttrs_list PySem.F.slot_list_append PySem.F.type_list_append mt_append (pe_ix ix_tup (pe_call cV.G hr (by rfl) cV.g cV.kp cV.b .nil pass0 (pa_cons (pv 3) (pa_cons pe_str pa_nil))) pe_int (fun _ _ => rfl)) (pa_cons (pe_tup (pa_cons pe_int (pa_cons pe_int pa_nil))) pa_nil)))
      (pss_cons (ps_if (pt_cmpR op_ne (pe_callB (call_reprD hg hr.units) (by rfl) Z.repr (by decide +kernel) (pa_cons (pv 3) pa_nil)) (pe_callB (call_reprD hg hr.units) (by rfl) Z.repr (by decide +kernel) (pa_cons (pe_tup (pa_cons (pe_lst (pa_cons (pe_tup (pa_cons pe_int (pa_cons pe_int pa_nil))) pa_nil)) (pa_cons pe_int pa_nil))) pa_nil)) (nomark _))
          (pss_one (ps_ret pe_bl)) pss_nil)
      (pss_cons (ps_set (i := 6) scLaw.nd rfl (.inl rfl) (pe_lst (pa_cons (pe_call cV.G hr (by rfl) cV.g cV.kp cV.b .nil pass0 (pa_cons (pe_tup (pa_cons (pe_lst (pa_cons (pe_tup (pa_cons (pe_op op_pow pe_int pe_int) (pa_cons pe_int pa_nil))) pa_nil)) (pa_cons pe_int pa_nil))) (pa_cons pe_str pa_nil))) (pa_cons (pe_call cV.G hr (by rfl) cV.g cV.kp cV.b .nil pass0 (pa_cons (pe_tup (pa_cons (pe_lst pa_nil) (pa_cons pe_int pa_nil))) (pa_cons pe_str pa_nil))) pa_nil))))
      (pss_cons (ps_expr (pe_bm PySem.F.plainAttrs_list PySem.F.slot_list_append PySem.F.type_list_append mt_append (pv 6) (pa_cons (pe_call cV.G hr (by rfl) cV.g cV.kp cV.b .nil pass0 (pa_cons (pe_tup (pa_cons (pe_lst (pa_cons (pe_tup (pa_cons pe_int (pa_cons pe_int pa_nil))) (pa_cons (pe_tup (pa_cons pe_int (pa_cons pe_int pa_nil))) pa_nil))) (pa_cons pe_int pa_nil))) (pa_cons pe_str pa_nil))) pa_nil)))
      (pss_one (ps_ret (pe_cmpR (op_eqD hr.units) (pv 6) (pe_lst (pa_cons (pe_tup (pa_cons (pe_lst (pa_cons (pe_tup (pa_cons (pe_op op_mul pe_int (pe_op op_pow pe_int pe_int)) (pa_cons pe_int pa_nil))) pa_nil)) (pa_cons pe_int pa_nil))) (pa_cons (pe_tup (pa_cons (pe_lst pa_nil) (pa_cons pe_int pa_nil))) (pa_cons (pe_tup (pa_cons (pe_lst (pa_cons (pe_tup (pa_cons pe_int (pa_cons pe_int pa_nil))) pa_nil)) (pa_cons pe_int pa_nil))) pa_nil)))) (nomark _))))))))))), ?_⟩
    refine ⟨.ref a, rfl, a, ns, rfl, hS, hlen, fun H1 r sm nr hR => ?_⟩
    refine ⟨.ref a, rfl, a, _, rfl, .inl (sm.seq hS), 10, _, rfl, _, _, rfl, rfl, _, rfl, ?_, ?_, ?_⟩
    · split <;> omega
    · split <;> omega
    have hb : (5 + (if ((ns.map V.int).length : Int) < 10 then ((ns.map V.int).length : Int) else 10)).toNat ≤ 15 := by split <;> omega
    generalize (5 + (if ((ns.map V.int).length : Int) < 10 then ((ns.map V.int).length : Int) else 10)).toNat = laps at hb
    refine for_range (lo := 0) (n := laps) (fun i σ H' => ∃ y2 y3 y4 y5, σ = [some (.ref a), some (.ref r), y2, y3, y4, y5, none, none] ∧ RngAt H' r (1000 * i)) ⟨none, none, none, none, rfl, hR⟩ ?_ ?_
    · rintro i σ H2 hi ⟨y2, y3, y4, y5, rfl, hR2⟩
      have hN : 1000 * i ≤ 30000 := by omega
      have goalN : ∀ m, m ≤ 1000 * i + 1000 → m ≤ 1000 * (i + 1) := fun m h => by omega
      generalize 1000 * i = N at hR2 hN goalN
      refine ⟨_, rfl, by show 3 ≤ sizeLine; decide, fun L nL => ?_⟩
      have s4 := same_upd (o := .lst [.int 3, .int 12, .int 40]) nL
      refine ⟨_, rfl, r, _, 3, rfl, hR2.same s4, by omega, by decide, by decide, fun c H5 c0 c1 hR5 k5 => ?_⟩
      have hL5 : H5 L = some (.lst [.int 3, .int 12, .int 40]) := k5.kq _ _ (hR2.ne nL) upd_same
      have pick : ∃ x : Nat, atI [V.int 3, .int 12, .int 40] c = some (.int (x : Int)) ∧ x ≤ 40 := by
        have : c = 0 ∨ c = 1 ∨ c = 2 := by omega
        rcases this with rfl | rfl | rfl
        · exact ⟨3, rfl, by decide⟩
        · exact ⟨12, rfl, by decide⟩
        · exact ⟨40, rfl, by decide⟩
      obtain ⟨m, hm, m1⟩ := pick
      refine ⟨L, _, c, _, rfl, rfl, .inl (.inl hL5), hm, ?_⟩
      refine ⟨r, _, m, rfl, hR5, by omega, by omega, fun piece g H6 hnew hg hgl hR6 k6 => ?_⟩
      obtain ⟨l, nl, hx⟩ := hnew.s
      have hlr := hR5.ne nl
      refine ⟨_, rfl, r, _, 3, rfl, hR6, by omega, by decide, by decide, fun kind H7 e0 e1 hR7 k7 => ?_⟩
      replace hx := hx.kq hR6 k7.kq hlr
      refine ⟨by show 2 ≤ sizeLine; decide, fun T nT => ?_⟩
      have s8 := same_upd (o := .tup [piece, .int kind]) nT
      refine ⟨T, _, rfl, .inl (.inl upd_same), rfl, _, _, rfl, _, _, rfl, rfl, ?_⟩
      replace hx := hx.same s8
      replace hR7 : RngAt _ r (N + 1 + 4 + 7 * 40 + 1) := (hR7.same s8).mono (by omega)
      generalize upd H7 T (.tup [piece, .int kind]) = H8 at hx hR7
      -- some
      refine ⟨⟨_, rfl⟩, ?_⟩
      refine ⟨_, rfl, r, _, 61, rfl, hR7, by omega, by decide, by decide, fun cnt H9 n0 n1 hR9 k9 => ?_⟩
      replace hx := hx.kq hR7 k9.kq hlr
      refine ⟨_, rfl, by omega, by omega, fun D nD => ?_⟩
      have hlD := hx.ne nD
      have hDr := hR9.ne nD
      refine lc_it (walk_range (lo := 0) (n := cnt.toNat)) (fun j H' => ∃ ys : List Str, H' D = some (.lst (ys.map V.str)) ∧ ys.length = j ∧ (∀ y ∈ ys, ∃ c ∈ steps.cps.toList, y = ⟨#[c]⟩) ∧ RngAt H' r (N + 287 + j) ∧ RnS K H' piece l g) ⟨[], upd_same, rfl, (fun x hx => by cases hx), (hR9.own hDr).mono (by omega), hx.same (same_upd nD)⟩ (fun _ _ _ _ => trivial) ?_ ?_
      · rintro j u H10 H11 hj ⟨ys, hD, hl, hys, hR10, hx10⟩ ⟨rfl, rfl⟩
        refine ⟨rfl, by show 3 ≤ sizeLine; decide, fun L2 nL2 => ?_⟩
        have s11 := same_upd (o := .lst [.str "UDMN", .str "UDUD", .str "UDDM"]) nL2
        have pick : ∃ z : Str, atI [V.str "UDMN", .str "UDUD", .str "UDDM"] kind = some (.str z) ∧ z.length = 4 ∧ ∀ i : Int, 0 ≤ i → i < 4 → ∃ c, atI z.cps.toList i = some c ∧ c ∈ steps.cps.toList := by
          have hk : kind = 0 ∨ kind = 1 ∨ kind = 2 := by omega
          have four : ∀ i : Int, 0 ≤ i → i < 4 → i = 0 ∨ i = 1 ∨ i = 2 ∨ i = 3 := fun i h0 h1 => by omega
          rcases hk with rfl | rfl | rfl
          · refine ⟨"UDMN", rfl, by decide, fun i h0 h1 => ?_⟩
            rcases four i h0 h1 with rfl | rfl | rfl | rfl <;> exact ⟨_, rfl, by decide⟩
          · refine ⟨"UDUD", rfl, by decide, fun i h0 h1 => ?_⟩
            rcases four i h0 h1 with rfl | rfl | rfl | rfl <;> exact ⟨_, rfl, by decide⟩
          · refine ⟨"UDDM", rfl, by decide, fun i h0 h1 => ?_⟩
            rcases four i h0 h1 with rfl | rfl | rfl | rfl <;> exact ⟨_, rfl, by decide⟩
        obtain ⟨z, hz, hzl, hzc⟩ := pick
        refine ⟨_, rfl, L2, _, kind, _, rfl, rfl, .inl (.inl upd_same), hz, ?_⟩
        refine ⟨_, rfl, r, _, 4, rfl, hR10.same s11, by omega, by decide, by decide, fun v H12 v0 v1 hR12 k12 => ?_⟩
        obtain ⟨c, hc, hcm⟩ := hzc v v0 v1
        have hD12 := k12.kq _ _ hDr (s11 _ _ hD)
        have hx12 := (hx10.same s11).kq (hR10.same s11) k12.kq hlr
        refine ⟨z, v, c, rfl, rfl, by rw [hzl]; decide, hc, _, hD12, by rw [List.length_map, sizeLine_eq]; omega, ys ++ [⟨#[c]⟩], by rw [upd_same, List.map_append]; rfl, by rw [List.length_append, hl]; rfl, fun y hy => ?_, (hR12.mono (by omega)).own hDr, hx12.upd hD12 hlD⟩
        rcases List.mem_append.mp hy with h | h
        · exact hys y h
        · exact ⟨c, hcm, List.mem_singleton.mp h⟩
      · rintro H10 ⟨ys, hD, hl, hys, hR10, hx10⟩
        have hone : ∀ y ∈ ys, y.length = 1 := fun y hy => by
          obtain ⟨c, _, rfl⟩ := hys y hy
          rfl
        have hsum : ∀ ys : List Str, (∀ y ∈ ys, y.length = 1) → (ys.map (·.length)).sum = ys.length := fun ys => by
          induction ys with
          | nil => intro _; rfl
          | cons y ys ih =>
            intro h
            rw [List.map_cons, List.sum_cons, ih fun x hx => h x (List.mem_cons_of_mem _ hx), h y (List.mem_cons_self ..), List.length_cons]
            omega
        have hjl : ∀ ys : List Str, (∀ y ∈ ys, y.length = 1) → ((ys.map fun y => y.cps.toList).flatten).length = ys.length := fun ys => by
          induction ys with
          | nil => intro _; rfl
          | cons y ys ih =>
            intro h
            have h1 : y.cps.toList.length = 1 := by
              rw [Array.length_toList]
              exact h y (List.mem_cons_self ..)
            rw [List.map_cons, List.flatten_cons, List.length_append, ih fun x hx => h x (List.mem_cons_of_mem _ hx), h1, List.length_cons]
            omega
        refine ⟨_, D, ys, rfl, rfl, .inl (.inl (.inl hD)), ?_, ?_⟩
        · rw [hsum ys hone]
          show ys.length + ys.length * 0 ≤ _
          omega
        have hch : ChOk (Txt.join "" ys) := fun c hc => by
          rw [join_none] at hc
          obtain ⟨cs, hcs, hcm⟩ := List.mem_flatten.mp hc
          obtain ⟨y, hy, rfl⟩ := List.mem_map.mp hcs
          obtain ⟨d, hd, rfl⟩ := hys y hy
          have : c = d := by simpa using hcm
          rw [this]
          exact hd
        have hsz : (Txt.join "" ys).cps.size ≤ 60 := by
          have e : (Txt.join "" ys).cps.toList.length = ys.length := by rw [join_none, hjl ys hone]
          rw [Array.length_toList] at e
          omega
        refine ⟨_, rfl, _, rfl, _, rfl, r, _, piece, l, g, _, rfl, hR10, by omega, hx10, hlr, hg, by omega, hch, hsz, fun H13 hR13 => ?_⟩
        refine ⟨_, rfl, iteF ?_⟩
        exact ⟨_, _, _, _, rfl, hR13.mono (goalN _ (by omega))⟩
    · rintro σ H2 ⟨y2, y3, y4, y5, rfl, hR2⟩
      have okk : ∀ z : Int, 0 ≤ z → z ≤ 1000000000000000000000000000000 → Sm 100 z := fun z h0 h1 => sm_of h0 h1
      have ok0 : RnOk 100 ([], 0) := ⟨fun i x hx => by simp at hx, ⟨by decide, okk 0 (by decide) (by decide)⟩, Nat.zero_le _⟩
      have ok1 : ∀ m j : Int, 1 ≤ m → m ≤ 1000000000000000000000000000000 → 0 ≤ j → j ≤ 1000000000000000000000000000000 → ∀ e : Int, 0 ≤ e → e ≤ 1000000000000000000000000000000 → RnOk 100 ([(m, j)], e) := fun m j m0 m1 j0 j1 e e0 e1 =>
        ⟨gsok_snoc (gs := []) (fun i x hx => by simp at hx) (fun a y e => by simp at e) ⟨m0, j0, okk _ (by show 0 ≤ m; omega) m1, okk _ j0 j1⟩, ⟨e0, okk _ e0 e1⟩, by show 1 ≤ 1000; decide⟩
      have ok2 : RnOk 100 ([(3, 0), (2, 1)], 1) := ⟨gsok_snoc (gs := [(3, 0)]) (gsok_snoc (gs := []) (fun i x hx => by simp at hx) (fun a y e => by simp at e) ⟨by decide, by decide, okk _ (by decide) (by decide), okk _ (by decide) (by decide)⟩) (fun a y e => by
        have := (List.append_inj' (show [] ++ [((3 : Int), (0 : Int))] = a ++ [y] from e) rfl).2
        cases this
        decide) ⟨by decide, by decide, okk _ (by decide) (by decide), okk _ (by decide) (by decide)⟩, ⟨by decide, okk _ (by decide) (by decide)⟩, by decide⟩
      have e0 : runAfter ([(2, 1)], 0) (formOf "") = ([(2, 1)], 0) := by decide +kernel
      have e1 : runAfter ([(10 ^ Int.toNat 20, 1)], 0) (formOf "M") = ([(2 * 10 ^ Int.toNat 20, 0)], 0) := by decide +kernel
      have e2 : runAfter ([], 0) (formOf "UMUN") = ([], 0) := by decide +kernel
      have e3 : runAfter ([(3, 0), (2, 1)], 1) (formOf "D") = ([(5, 0)], 1) := by decide +kernel
      have c0 : ChOk "" := by unfold ChOk; decide
      have c1 : ChOk "M" := by unfold ChOk; decide
      have c2 : ChOk "UMUN" := by unfold ChOk; decide
      have c3 : ChOk "D" := by unfold ChOk; decide
      -- piece
      refine ⟨by show 2 ≤ sizeLine; decide, fun u1 k1 => ⟨by show 1 ≤ sizeLine; decide, fun l1 n1 => ⟨by show 2 ≤ sizeLine; decide, fun t1 m1 => ?_⟩⟩⟩
      have q1 := same_upd (o := .tup [.int 2, .int 1]) k1
      have q2 := same_upd (o := .lst [.ref u1]) n1
      have q3 := same_upd (o := .tup [.ref l1, .int 0]) m1
      have hx : RnS K (upd (upd (upd H2 u1 (.tup [.int 2, .int 1])) l1 (.lst [.ref u1])) t1 (.tup [.ref l1, .int 0])) (.ref t1) l1 ([(2, 1)], 0) := ⟨t1, [.ref u1], rfl, upd_same, q3 _ _ upd_same, .cons ⟨u1, rfl, q3 _ _ (q2 _ _ upd_same)⟩ .nil⟩
      show gName 3 _ _ (upd (upd (upd H2 u1 (.tup [.int 2, .int 1])) l1 (.lst [.ref u1])) t1 (.tup [.ref l1, .int 0])) _
      generalize upd (upd (upd H2 u1 (.tup [.int 2, .int 1])) l1 (.lst [.ref u1])) t1 (.tup [.ref l1, .int 0]) = H3 at hx
      clear q1 q2 q3 m1 n1 k1
      refine ⟨_, rfl, .ref t1, l1, ([(2, 1)], 0), "", 100, rfl, hx.rn, ok1 2 1 (by decide) (by decide) (by decide) (by decide) 0 (by decide) (by decide), c0, by decide, by decide, fun v2 H4 s4 hv2 => ?_⟩
      rw [e0] at hv2
      obtain ⟨l2, nl2, p2, xs2, rfl, hp2, hl2, hP2⟩ := hv2.s
      have h12 := hx.ne nl2
      refine ⟨p2, _, 0, _, rfl, rfl, .inl (.inl hp2), atI_nat (j := 0) rfl, .inl ⟨rfl, _, .inl (.inl hl2)⟩, by show 2 ≤ sizeLine; decide, fun t nt => ?_⟩
      have s5 := same_upd (o := .tup [.int 5, .int 0]) nt
      refine ⟨l2, _, .ref t, rfl, rfl, s5 _ _ hl2, by rw [hP2.len, sizeLine_eq]; decide, ?_⟩
      replace hx := ((hx.same s4).same s5).upd (o := .lst (xs2 ++ [.ref t])) (s5 _ _ hl2) h12
      generalize upd (upd H4 t (.tup [.int 5, .int 0])) l2 (.lst (xs2 ++ [.ref t])) = H5 at hx
      -- as it was
      have fit0 : Fit (rd ([(2, 1)], 0)) := rd_fit ((ok1 2 1 (by decide) (by decide) (by decide) (by decide) 0 (by decide) (by decide)).mono (by decide)) (by decide)
      refine ⟨_, rfl, .ref t1, rd ([(2, 1)], 0), rfl, hx.dq.dp, fit0, ?_⟩
      refine ⟨by show 2 ≤ sizeLine; decide, fun u6 k6 => ⟨by show 1 ≤ sizeLine; decide, fun l6 n6 => ⟨by show 2 ≤ sizeLine; decide, fun t6 m6 => ?_⟩⟩⟩
      have q2 := same_upd (o := .lst [.ref u6]) n6
      have q3 := same_upd (o := .tup [.ref l6, .int 0]) m6
      have hx6 : RnS K (upd (upd (upd H5 u6 (.tup [.int 2, .int 1])) l6 (.lst [.ref u6])) t6 (.tup [.ref l6, .int 0])) (.ref t6) l6 ([(2, 1)], 0) := ⟨t6, [.ref u6], rfl, upd_same, q3 _ _ upd_same, .cons ⟨u6, rfl, q3 _ _ (q2 _ _ upd_same)⟩ .nil⟩
      refine ⟨.ref t6, rd ([(2, 1)], 0), rfl, hx6.dq.dp, fit0, rfl, _, rfl, ?_⟩
      rw [decide_eq_true rfl]
      refine iteF ?_
      generalize upd (upd (upd H5 u6 (.tup [.int 2, .int 1])) l6 (.lst [.ref u6])) t6 (.tup [.ref l6, .int 0]) = H6
      clear hx hx6 q2 q3 s4 s5 hv2 hp2 hl2 hP2
      -- told
      refine ⟨_, _, rfl, rfl, ⟨by decide, by decide, by decide⟩, ?_⟩
      refine ⟨by show 2 ≤ sizeLine; decide, fun u7 k7 => ⟨by show 1 ≤ sizeLine; decide, fun l7 n7 => ⟨by show 2 ≤ sizeLine; decide, fun t7 m7 => ?_⟩⟩⟩
      have q2 := same_upd (o := .lst [.ref u7]) n7
      have q3 := same_upd (o := .tup [.ref l7, .int 0]) m7
      have hx7 : RnS K (upd (upd (upd H6 u7 (.tup [.int (10 ^ Int.toNat 20), .int 1])) l7 (.lst [.ref u7])) t7 (.tup [.ref l7, .int 0])) (.ref t7) l7 ([(10 ^ Int.toNat 20, 1)], 0) := ⟨t7, [.ref u7], rfl, upd_same, q3 _ _ upd_same, .cons ⟨u7, rfl, q3 _ _ (q2 _ _ upd_same)⟩ .nil⟩
      refine ⟨.ref t7, l7, ([(10 ^ Int.toNat 20, 1)], 0), "M", 100, rfl, hx7.rn, ok1 _ 1 (by decide +kernel) (by decide +kernel) (by decide) (by decide) 0 (by decide) (by decide), c1, by decide, by decide, fun v8 H8 s8 hv8 => ?_⟩
      rw [e1] at hv8
      obtain ⟨l8, nl8, hx8⟩ := hv8.s
      clear hx7 q2 q3 s8 hv8 nl8
      refine ⟨Nat.zero_le _, fun l9 n9 => ⟨by show 2 ≤ sizeLine; decide, fun t9 m9 => ?_⟩⟩
      have q2 := same_upd (o := .lst []) n9
      have q3 := same_upd (o := .tup [.ref l9, .int 0]) m9
      have hx9 : RnS K (upd (upd H8 l9 (.lst [])) t9 (.tup [.ref l9, .int 0])) (.ref t9) l9 ([], 0) := ⟨t9, [], rfl, upd_same, q3 _ _ upd_same, .nil⟩
      replace hx8 := (hx8.same q2).same q3
      generalize upd (upd H8 l9 (.lst [])) t9 (.tup [.ref l9, .int 0]) = H9 at hx8 hx9
      refine ⟨.ref t9, l9, ([], 0), "UMUN", 100, rfl, hx9.rn, ok0, c2, by decide, by decide, fun v10 H10 s10 hv10 => ?_⟩
      rw [e2] at hv10
      obtain ⟨l10, nl10, hx10⟩ := hv10.s
      replace hx8 := hx8.same s10
      clear hx9 q2 q3 s10 hv10 nl10
      refine ⟨by show 2 ≤ sizeLine; decide, fun La nLa => ?_⟩
      have s11 := same_upd (o := .lst [v8, v10]) nLa
      have h8a := hx8.ne nLa
      have h10a := hx10.ne nLa
      have hLa : upd H10 La (.lst [v8, v10]) La = some (.lst [v8, v10]) := upd_same
      replace hx8 := hx8.same s11
      replace hx10 := hx10.same s11
      show gName 6 _ _ (upd H10 La (.lst [v8, v10])) _
      generalize upd H10 La (.lst [v8, v10]) = H11 at hLa hx8 hx10
      clear s11
      -- told.append
      refine ⟨_, rfl, .inl ⟨rfl, _, .inl (.inl hLa)⟩, ?_⟩
      refine ⟨by show 2 ≤ sizeLine; decide, fun u12 k12 => ⟨by show 2 ≤ sizeLine; decide, fun w12 j12 => ⟨by show 2 ≤ sizeLine; decide, fun l12 n12 => ⟨by show 2 ≤ sizeLine; decide, fun t12 m12 => ?_⟩⟩⟩⟩
      have q0 := same_upd (o := .tup [.int 3, .int 0]) k12
      have q1 := same_upd (o := .tup [.int 2, .int 1]) j12
      have q2 := same_upd (o := .lst [.ref u12, .ref w12]) n12
      have q3 := same_upd (o := .tup [.ref l12, .int 1]) m12
      refine ⟨.ref t12, l12, ([(3, 0), (2, 1)], 1), "D", 100, rfl, ⟨t12, rfl, .inl (.inl upd_same), [.ref u12, .ref w12], .inl (.inl (q3 _ _ upd_same)), .cons ⟨u12, rfl, q3 _ _ (q2 _ _ (q1 _ _ upd_same))⟩ (.cons ⟨w12, rfl, q3 _ _ (q2 _ _ upd_same)⟩ .nil)⟩, ok2, c3, by decide, by decide, fun v13 H13 s13 hv13 => ?_⟩
      rw [e3] at hv13
      obtain ⟨l13, nl13, hx13⟩ := hv13.s
      have sA := (((q0.trans q1).trans q2).trans q3).trans s13
      have hLa13 := sA _ _ hLa
      have h13a : l13 ≠ La := by
        have nLa2 : ∀ b, upd (upd (upd (upd H11 u12 (.tup [.int 3, .int 0])) w12 (.tup [.int 2, .int 1])) l12 (.lst [.ref u12, .ref w12])) t12 (.tup [.ref l12, .int 1]) b = none → b ≠ La := fun b hb e => by
          subst e
          rw [q3 _ _ (q2 _ _ (q1 _ _ (q0 _ _ hLa)))] at hb
          cases hb
        exact nLa2 _ nl13
      refine ⟨La, _, v13, rfl, rfl, hLa13, by show 2 + 1 ≤ sizeLine; decide, ?_⟩
      replace hx8 := (hx8.same sA).upd (o := .lst ([v8, v10] ++ [v13])) hLa13 h8a
      replace hx10 := (hx10.same sA).upd (o := .lst ([v8, v10] ++ [v13])) hLa13 h10a
      replace hx13 := hx13.upd (o := .lst ([v8, v10] ++ [v13])) hLa13 h13a
      have hL14 : upd H13 La (.lst ([v8, v10] ++ [v13])) La = some (.lst [v8, v10, v13]) := upd_same
      generalize upd H13 La (.lst ([v8, v10] ++ [v13])) = H14 at hx8 hx10 hx13 hL14
      clear sA q0 q1 q2 q3 s13 hv13
      -- the end
      refine ⟨_, rfl, _, _, rfl, rfl, ⟨by decide, by decide, by decide⟩, _, _, rfl, rfl, .inl ⟨by decide, by decide⟩, ?_⟩
      refine ⟨by show 2 ≤ sizeLine; decide, fun u1 k1 => ⟨by show 1 ≤ sizeLine; decide, fun l1 n1 => ⟨by show 2 ≤ sizeLine; decide, fun t1 m1 => ?_⟩⟩⟩
      have q1 := same_upd (o := .tup [.int (2 * 10 ^ Int.toNat 20), .int 0]) k1
      have q2 := same_upd (o := .lst [.ref u1]) n1
      have q3 := same_upd (o := .tup [.ref l1, .int 0]) m1
      have y1 : RnS K (upd (upd (upd H14 u1 (.tup [.int (2 * 10 ^ Int.toNat 20), .int 0])) l1 (.lst [.ref u1])) t1 (.tup [.ref l1, .int 0])) (.ref t1) l1 ([(2 * 10 ^ Int.toNat 20, 0)], 0) := ⟨t1, [.ref u1], rfl, upd_same, q3 _ _ upd_same, .cons ⟨u1, rfl, q3 _ _ (q2 _ _ upd_same)⟩ .nil⟩
      have sA := (q1.trans q2).trans q3
      generalize upd (upd (upd H14 u1 (.tup [.int (2 * 10 ^ Int.toNat 20), .int 0])) l1 (.lst [.ref u1])) t1 (.tup [.ref l1, .int 0]) = H15 at y1 sA
      refine ⟨Nat.zero_le _, fun l2 n2 => ⟨by show 2 ≤ sizeLine; decide, fun t2 m2 => ?_⟩⟩
      have q4 := same_upd (o := .lst []) n2
      have q5 := same_upd (o := .tup [.ref l2, .int 0]) m2
      have y2 : RnS K (upd (upd H15 l2 (.lst [])) t2 (.tup [.ref l2, .int 0])) (.ref t2) l2 ([], 0) := ⟨t2, [], rfl, upd_same, q5 _ _ upd_same, .nil⟩
      replace y1 := (y1.same q4).same q5
      replace sA := (sA.trans q4).trans q5
      generalize upd (upd H15 l2 (.lst [])) t2 (.tup [.ref l2, .int 0]) = H16 at y1 y2 sA
      refine ⟨by show 2 ≤ sizeLine; decide, fun u3 k3 => ⟨by show 1 ≤ sizeLine; decide, fun l3 n3 => ⟨by show 2 ≤ sizeLine; decide, fun t3 m3 => ⟨by show 3 ≤ sizeLine; decide, fun Lb nLb => ?_⟩⟩⟩⟩
      have q6 := same_upd (o := .tup [.int 5, .int 0]) k3
      have q7 := same_upd (o := .lst [.ref u3]) n3
      have q8 := same_upd (o := .tup [.ref l3, .int 1]) m3
      have q9 := same_upd (o := .lst [.ref t1, .ref t2, .ref t3]) nLb
      have y3 : RnS K (upd (upd (upd H16 u3 (.tup [.int 5, .int 0])) l3 (.lst [.ref u3])) t3 (.tup [.ref l3, .int 1])) (.ref t3) l3 ([(5, 0)], 1) := ⟨t3, [.ref u3], rfl, upd_same, q8 _ _ upd_same, .cons ⟨u3, rfl, q8 _ _ (q7 _ _ upd_same)⟩ .nil⟩
      have sB := ((q6.trans q7).trans q8).trans q9
      replace sA := sA.trans sB
      have dA := Dq.lst (sA _ _ hL14) (.cons (hx8.same sA).dq (.cons (hx10.same sA).dq (.cons (hx13.same sA).dq .nil)))
      have dB := Dq.lst (K := K) (upd_same : upd (upd (upd (upd H16 u3 (.tup [.int 5, .int 0])) l3 (.lst [.ref u3])) t3 (.tup [.ref l3, .int 1])) Lb (.lst [.ref t1, .ref t2, .ref t3]) Lb = _) (.cons (y1.same sB).dq (.cons (y2.same sB).dq (.cons (y3.same q9).dq .nil)))
      have shp : SeqAt.shaped (.list [rd ([(2 * 10 ^ Int.toNat 20, 0)], 0), rd ([], 0), rd ([(5, 0)], 1)]) = true := by decide +kernel
      refine ⟨_, _, dA.dp, dB.dp, shp, shp, ?_⟩
      rw [SeqAt.eqv_refl _ (SeqAt.canLay_of_shaped shp)]
      exact q _
end
end Lw
namespace Lw
open PySem PySem.Spec L2 Lx
theorem sz5 {n : Nat} (h : n ≤ 5) : n ≤ sizeLine := by
  rw [sizeLine_eq]; omega
theorem all_mk {P : Program} {w : World} {K : PySem.W.Frag} {h : Heap} {mg : Str → Option Value} {fa aN aS aU aD aM aQ fCc fCr fFo fBo fAk fBk fUo fSa fUg fRa fRu fUn fMg fCv fSz fLr fLd fLu fLa fLs fLt fW : Addr} (X : K.In h) (G : h.Ns mainGlobals mg) (hfa : mg "law" = some (.ref fa))
    {ocCc kVCc docCc pmCc cdCc ctCc : Value} {odCc anCc : Option Addr} {oslCc : Array (Option Value)}
    {ocCr kVCr docCr pmCr cdCr ctCr : Value} {odCr anCr : Option Addr} {oslCr : Array (Option Value)}
    {ocFo kVFo docFo pmFo cdFo ctFo : Value} {odFo anFo : Option Addr} {oslFo : Array (Option Value)}
    {ocBo kVBo docBo pmBo cdBo ctBo : Value} {odBo anBo : Option Addr} {oslBo : Array (Option Value)}
    {ocAk kVAk docAk pmAk cdAk ctAk : Value} {odAk anAk : Option Addr} {oslAk : Array (Option Value)}
    {ocBk kVBk docBk pmBk cdBk ctBk : Value} {odBk anBk : Option Addr} {oslBk : Array (Option Value)}
    {ocUo kVUo docUo pmUo cdUo ctUo : Value} {odUo anUo : Option Addr} {oslUo : Array (Option Value)}
    {ocSa kVSa docSa pmSa cdSa ctSa : Value} {odSa anSa : Option Addr} {oslSa : Array (Option Value)}
    {ocUg kVUg docUg pmUg cdUg ctUg : Value} {odUg anUg : Option Addr} {oslUg : Array (Option Value)}
    {ocRa kVRa docRa pmRa cdRa ctRa : Value} {odRa anRa : Option Addr} {oslRa : Array (Option Value)}
    {ocRu kVRu docRu pmRu cdRu ctRu : Value} {odRu anRu : Option Addr} {oslRu : Array (Option Value)}
    {ocUn kVUn docUn pmUn cdUn ctUn : Value} {odUn anUn : Option Addr} {oslUn : Array (Option Value)}
    {ocMg kVMg docMg pmMg cdMg ctMg : Value} {odMg anMg : Option Addr} {oslMg : Array (Option Value)}
    {ocCv kVCv docCv pmCv cdCv ctCv : Value} {odCv anCv : Option Addr} {oslCv : Array (Option Value)}
    {ocSz kVSz docSz pmSz cdSz ctSz : Value} {odSz anSz : Option Addr} {oslSz : Array (Option Value)}
    {ocLr kVLr docLr pmLr cdLr ctLr : Value} {odLr anLr : Option Addr} {oslLr : Array (Option Value)}
    {ocLd kVLd docLd pmLd cdLd ctLd : Value} {odLd anLd : Option Addr} {oslLd : Array (Option Value)}
    {ocLu kVLu docLu pmLu cdLu ctLu : Value} {odLu anLu : Option Addr} {oslLu : Array (Option Value)}
    {ocLa kVLa docLa pmLa cdLa ctLa : Value} {odLa anLa : Option Addr} {oslLa : Array (Option Value)}
    {ocLs kVLs docLs pmLs cdLs ctLs : Value} {odLs anLs : Option Addr} {oslLs : Array (Option Value)}
    {ocLt kVLt docLt pmLt cdLt ctLt : Value} {odLt anLt : Option Addr} {oslLt : Array (Option Value)}
    {ocW kVW docW pmW cdW ctW : Value} {odW anW : Option Addr} {oslW : Array (Option Value)}
    {tS : Tok}
    {n1 n2 n3 : Tok} {nN : Nat} {odN : Option Addr} {slN : Array (Option Value)}
    {uU0 uU1 uU2 uD0 uD1 uD2 uM0 uM1 uM2 uM3 uM4 uN0 uN1 uN2 uN3 : Tok} {esS : Array DictEntry} {nS nU nD nM nQ : Nat} {odU odD odM odQ : Option Addr} {slU slD slM slQ : Array (Option Value)}
    (aCc : PySem.W.nsIn K mainGlobals "check_chain" = some (some (.ref fCc)))
    (lCc : K.lookup fCc = some ⟨ocCc, odCc, .func (PySem.W.fnOf "check_chain" "check_chain" (defArgs sChkChain) (defBody sChkChain) (defScope sChkChain) .none kVCc docCc pmCc anCc cdCc ctCc), oslCc⟩)
    (c_Cc : PySem.W.codeIn K cdCc "check_chain" = true)
    (k_Cc : PySem.W.keepIn K (.ref fCc) = true)
    (aCr : PySem.W.nsIn K mainGlobals "check_run" = some (some (.ref fCr)))
    (lCr : K.lookup fCr = some ⟨ocCr, odCr, .func (PySem.W.fnOf "check_run" "check_run" (defArgs sChkRun) (defBody sChkRun) (defScope sChkRun) .none kVCr docCr pmCr anCr cdCr ctCr), oslCr⟩)
    (c_Cr : PySem.W.codeIn K cdCr "check_run" = true)
    (k_Cr : PySem.W.keepIn K (.ref fCr) = true)
    (aFo : PySem.W.nsIn K mainGlobals "form_of_chain" = some (some (.ref fFo)))
    (lFo : K.lookup fFo = some ⟨ocFo, odFo, .func (PySem.W.fnOf "form_of_chain" "form_of_chain" (defArgs sFoc) (defBody sFoc) (defScope sFoc) .none kVFo docFo pmFo anFo cdFo ctFo), oslFo⟩)
    (c_Fo : PySem.W.codeIn K cdFo "form_of_chain" = true)
    (k_Fo : PySem.W.keepIn K (.ref fFo) = true)
    (aBo : PySem.W.nsIn K mainGlobals "form_of_both" = some (some (.ref fBo)))
    (lBo : K.lookup fBo = some ⟨ocBo, odBo, .func (PySem.W.fnOf "form_of_both" "form_of_both" (defArgs sBoth) (defBody sBoth) (defScope sBoth) .none kVBo docBo pmBo anBo cdBo ctBo), oslBo⟩)
    (c_Bo : PySem.W.codeIn K cdBo "form_of_both" = true)
    (k_Bo : PySem.W.keepIn K (.ref fBo) = true)
    (aAk : PySem.W.nsIn K mainGlobals "after_keep" = some (some (.ref fAk)))
    (lAk : K.lookup fAk = some ⟨ocAk, odAk, .func (PySem.W.fnOf "after_keep" "after_keep" (defArgs sAftKeep) (defBody sAftKeep) (defScope sAftKeep) .none kVAk docAk pmAk anAk cdAk ctAk), oslAk⟩)
    (c_Ak : PySem.W.codeIn K cdAk "after_keep" = true)
    (k_Ak : PySem.W.keepIn K (.ref fAk) = true)
    (aBk : PySem.W.nsIn K mainGlobals "before_keep" = some (some (.ref fBk)))
    (lBk : K.lookup fBk = some ⟨ocBk, odBk, .func (PySem.W.fnOf "before_keep" "before_keep" (defArgs sBefKeep) (defBody sBefKeep) (defScope sBefKeep) .none kVBk docBk pmBk anBk cdBk ctBk), oslBk⟩)
    (c_Bk : PySem.W.codeIn K cdBk "before_keep" = true)
    (k_Bk : PySem.W.keepIn K (.ref fBk) = true)
    (aUo : PySem.W.nsIn K mainGlobals "units_of_one" = some (some (.ref fUo)))
    (lUo : K.lookup fUo = some ⟨ocUo, odUo, .func (PySem.W.fnOf "units_of_one" "units_of_one" (defArgs sOne) (defBody sOne) (defScope sOne) .none kVUo docUo pmUo anUo cdUo ctUo), oslUo⟩)
    (c_Uo : PySem.W.codeIn K cdUo "units_of_one" = true)
    (k_Uo : PySem.W.keepIn K (.ref fUo) = true)
    (aSa : PySem.W.nsIn K mainGlobals "signs_after" = some (some (.ref fSa)))
    (lSa : K.lookup fSa = some ⟨ocSa, odSa, .func (PySem.W.fnOf "signs_after" "signs_after" (defArgs sSigns) (defBody sSigns) (defScope sSigns) .none kVSa docSa pmSa anSa cdSa ctSa), oslSa⟩)
    (c_Sa : PySem.W.codeIn K cdSa "signs_after" = true)
    (k_Sa : PySem.W.keepIn K (.ref fSa) = true)
    (aUg : PySem.W.nsIn K mainGlobals "units_of_group" = some (some (.ref fUg)))
    (lUg : K.lookup fUg = some ⟨ocUg, odUg, .func (PySem.W.fnOf "units_of_group" "units_of_group" (defArgs sUog) (defBody sUog) (defScope sUog) .none kVUg docUg pmUg anUg cdUg ctUg), oslUg⟩)
    (c_Ug : PySem.W.codeIn K cdUg "units_of_group" = true)
    (k_Ug : PySem.W.keepIn K (.ref fUg) = true)
    (aRa : PySem.W.nsIn K mainGlobals "run_after" = some (some (.ref fRa)))
    (lRa : K.lookup fRa = some ⟨ocRa, odRa, .func (PySem.W.fnOf "run_after" "run_after" (defArgs sRunAft) (defBody sRunAft) (defScope sRunAft) .none kVRa docRa pmRa anRa cdRa ctRa), oslRa⟩)
    (c_Ra : PySem.W.codeIn K cdRa "run_after" = true)
    (k_Ra : PySem.W.keepIn K (.ref fRa) = true)
    (aRu : PySem.W.nsIn K mainGlobals "run_of_units" = some (some (.ref fRu)))
    (lRu : K.lookup fRu = some ⟨ocRu, odRu, .func (PySem.W.fnOf "run_of_units" "run_of_units" (defArgs sRou) (defBody sRou) (defScope sRou) .none kVRu docRu pmRu anRu cdRu ctRu), oslRu⟩)
    (c_Ru : PySem.W.codeIn K cdRu "run_of_units" = true)
    (k_Ru : PySem.W.keepIn K (.ref fRu) = true)
    (aUn : PySem.W.nsIn K mainGlobals "units" = some (some (.ref fUn)))
    (lUn : K.lookup fUn = some ⟨ocUn, odUn, .func (PySem.W.fnOf "units" "units" (defArgs sUnits) (defBody sUnits) (defScope sUnits) .none kVUn docUn pmUn anUn cdUn ctUn), oslUn⟩)
    (c_Un : PySem.W.codeIn K cdUn "units" = true)
    (k_Un : PySem.W.keepIn K (.ref fUn) = true)
    (aMg : PySem.W.nsIn K mainGlobals "merged_groups" = some (some (.ref fMg)))
    (lMg : K.lookup fMg = some ⟨ocMg, odMg, .func (PySem.W.fnOf "merged_groups" "merged_groups" (defArgs sMerged) (defBody sMerged) (defScope sMerged) .none kVMg docMg pmMg anMg cdMg ctMg), oslMg⟩)
    (c_Mg : PySem.W.codeIn K cdMg "merged_groups" = true)
    (k_Mg : PySem.W.keepIn K (.ref fMg) = true)
    (aCv : PySem.W.nsIn K mainGlobals "convert_run" = some (some (.ref fCv)))
    (lCv : K.lookup fCv = some ⟨ocCv, odCv, .func (PySem.W.fnOf "convert_run" "convert_run" (defArgs sConv) (defBody sConv) (defScope sConv) .none kVCv docCv pmCv anCv cdCv ctCv), oslCv⟩)
    (c_Cv : PySem.W.codeIn K cdCv "convert_run" = true)
    (k_Cv : PySem.W.keepIn K (.ref fCv) = true)
    (aSz : PySem.W.nsIn K mainGlobals "size" = some (some (.ref fSz)))
    (lSz : K.lookup fSz = some ⟨ocSz, odSz, .func (PySem.W.fnOf "size" "size" (defArgs sSize) (defBody sSize) (defScope sSize) .none kVSz docSz pmSz anSz cdSz ctSz), oslSz⟩)
    (c_Sz : PySem.W.codeIn K cdSz "size" = true)
    (k_Sz : PySem.W.keepIn K (.ref fSz) = true)
    (aLr : PySem.W.nsIn K mainGlobals "_law_rng" = some (some (.ref fLr)))
    (lLr : K.lookup fLr = some ⟨ocLr, odLr, .func (PySem.W.fnOf "_law_rng" "_law_rng" (defArgs sLRng) (defBody sLRng) (defScope sLRng) .none kVLr docLr pmLr anLr cdLr ctLr), oslLr⟩)
    (c_Lr : PySem.W.codeIn K cdLr "_law_rng" = true)
    (k_Lr : PySem.W.keepIn K (.ref fLr) = true)
    (aLd : PySem.W.nsIn K mainGlobals "_law_draw" = some (some (.ref fLd)))
    (lLd : K.lookup fLd = some ⟨ocLd, odLd, .func (PySem.W.fnOf "_law_draw" "_law_draw" (defArgs sLDraw) (defBody sLDraw) (defScope sLDraw) .none kVLd docLd pmLd anLd cdLd ctLd), oslLd⟩)
    (c_Ld : PySem.W.codeIn K cdLd "_law_draw" = true)
    (k_Ld : PySem.W.keepIn K (.ref fLd) = true)
    (aLu : PySem.W.nsIn K mainGlobals "_law_run" = some (some (.ref fLu)))
    (lLu : K.lookup fLu = some ⟨ocLu, odLu, .func (PySem.W.fnOf "_law_run" "_law_run" (defArgs sLRun) (defBody sLRun) (defScope sLRun) .none kVLu docLu pmLu anLu cdLu ctLu), oslLu⟩)
    (c_Lu : PySem.W.codeIn K cdLu "_law_run" = true)
    (k_Lu : PySem.W.keepIn K (.ref fLu) = true)
    (aLa : PySem.W.nsIn K mainGlobals "_law_after" = some (some (.ref fLa)))
    (lLa : K.lookup fLa = some ⟨ocLa, odLa, .func (PySem.W.fnOf "_law_after" "_law_after" (defArgs sLAfter) (defBody sLAfter) (defScope sLAfter) .none kVLa docLa pmLa anLa cdLa ctLa), oslLa⟩)
    (c_La : PySem.W.codeIn K cdLa "_law_after" = true)
    (k_La : PySem.W.keepIn K (.ref fLa) = true)
    (aLs : PySem.W.nsIn K mainGlobals "_law_size" = some (some (.ref fLs)))
    (lLs : K.lookup fLs = some ⟨ocLs, odLs, .func (PySem.W.fnOf "_law_size" "_law_size" (defArgs sLSize) (defBody sLSize) (defScope sLSize) .none kVLs docLs pmLs anLs cdLs ctLs), oslLs⟩)
    (c_Ls : PySem.W.codeIn K cdLs "_law_size" = true)
    (k_Ls : PySem.W.keepIn K (.ref fLs) = true)
    (aLt : PySem.W.nsIn K mainGlobals "_law_right" = some (some (.ref fLt)))
    (lLt : K.lookup fLt = some ⟨ocLt, odLt, .func (PySem.W.fnOf "_law_right" "_law_right" (defArgs sLRight) (defBody sLRight) (defScope sLRight) .none kVLt docLt pmLt anLt cdLt ctLt), oslLt⟩)
    (c_Lt : PySem.W.codeIn K cdLt "_law_right" = true)
    (k_Lt : PySem.W.keepIn K (.ref fLt) = true)
    (aW : PySem.W.nsIn K mainGlobals "law" = some (some (.ref fW)))
    (lW : K.lookup fW = some ⟨ocW, odW, .func (PySem.W.fnOf "law" "law" (defArgs sLaw) (defBody sLaw) (defScope sLaw) .none kVW docW pmW anW cdW ctW), oslW⟩)
    (c_W : PySem.W.codeIn K cdW "law" = true)
    (k_W : PySem.W.keepIn K (.ref fW) = true)
    (z_abs : PySem.W.nsIn K mainGlobals "abs" = some none)
    (z_enumerate : PySem.W.nsIn K mainGlobals "enumerate" = some none)
    (z_int : PySem.W.nsIn K mainGlobals "int" = some none)
    (z_len : PySem.W.nsIn K mainGlobals "len" = some none)
    (z_max : PySem.W.nsIn K mainGlobals "max" = some none)
    (z_min : PySem.W.nsIn K mainGlobals "min" = some none)
    (z_range : PySem.W.nsIn K mainGlobals "range" = some none)
    (z_repr : PySem.W.nsIn K mainGlobals "repr" = some none)
    (z_sum : PySem.W.nsIn K mainGlobals "sum" = some none)
    (gS : PySem.W.nsIn K mainGlobals "STEPS" = some (some (.str "UDMN" tS)))
    (gN : PySem.W.nsIn K mainGlobals "NOTHING" = some (some (.ref aN)))
    (hN : K.lookup aN = some ⟨.type "tuple", odN, .seq #[.str "keep" n1, .int 0 n2, .int 0 n3] nN, slN⟩)
    (gQ : PySem.W.nsIn K mainGlobals "STEP_FORMS" = some (some (.ref aS)))
    (hS : K.lookup aS = some ⟨.type "dict", none, .dict esS nS, #[]⟩)
    (kS : PySem.W.KeysLit w.params esS.toList)
    (sU : PySem.W.nsIn K aS "U" = some (some (.ref aU)))
    (hUt : K.lookup aU = some ⟨.type "tuple", odU, .seq #[.str "keep" uU0, .int 0 uU1, .int 1 uU2] nU, slU⟩)
    (sD : PySem.W.nsIn K aS "D" = some (some (.ref aD)))
    (hDt : K.lookup aD = some ⟨.type "tuple", odD, .seq #[.str "keep" uD0, .int 1 uD1, .int 0 uD2] nD, slD⟩)
    (sM : PySem.W.nsIn K aS "M" = some (some (.ref aM)))
    (hMt : K.lookup aM = some ⟨.type "tuple", odM, .seq #[.str "lf" uM0, .int 0 uM1, .int 0 uM2, .int 1 uM3, .int 0 uM4] nM, slM⟩)
    (sN : PySem.W.nsIn K aS "N" = some (some (.ref aQ)))
    (hNt : K.lookup aQ = some ⟨.type "tuple", odQ, .seq #[.str "cr" uN0, .int 0 uN1, .int 0 uN2, .int 1 uN3] nQ, slQ⟩) :
    ∃ fd : FuncData, (∀ (s : Shared) (v : Value), BindsTo s fd ⟨[v], []⟩ [("script", v)]) ∧ ∀ base : Heap, K.In base → base.Ns mainGlobals mg → FnG P w K mg base CX0 8 fa fd ["script"] (spLaw K) := by
  have e := hfa.symm.trans (PySem.W.mg_of X G aW)
  cases e
  have FCc := fun_mk (st := sChkChain) lCc c_Cc k_Cc
  have bCc := FCc.binds (ps := ["chain"]) fun _ _ _ _ _ _ us hl => match us, hl with | [_], _ => rfl
  have gCc' := PySem.W.mg_of X G aCc
  have FCr := fun_mk (st := sChkRun) lCr c_Cr k_Cr
  have bCr := FCr.binds (ps := ["run"]) fun _ _ _ _ _ _ us hl => match us, hl with | [_], _ => rfl
  have gCr' := PySem.W.mg_of X G aCr
  have FFo := fun_mk (st := sFoc) lFo c_Fo k_Fo
  have bFo := FFo.binds (ps := ["chain"]) fun _ _ _ _ _ _ us hl => match us, hl with | [_], _ => rfl
  have gFo' := PySem.W.mg_of X G aFo
  have FBo := fun_mk (st := sBoth) lBo c_Bo k_Bo
  have bBo := FBo.binds (ps := ["first", "second"]) fun _ _ _ _ _ _ us hl => match us, hl with | [_, _], _ => rfl
  have gBo' := PySem.W.mg_of X G aBo
  have FAk := fun_mk (st := sAftKeep) lAk c_Ak k_Ak
  have bAk := FAk.binds (ps := ["first", "second"]) fun _ _ _ _ _ _ us hl => match us, hl with | [_, _], _ => rfl
  have gAk' := PySem.W.mg_of X G aAk
  have FBk := fun_mk (st := sBefKeep) lBk c_Bk k_Bk
  have bBk := FBk.binds (ps := ["first", "second"]) fun _ _ _ _ _ _ us hl => match us, hl with | [_, _], _ => rfl
  have gBk' := PySem.W.mg_of X G aBk
  have FUo := fun_mk (st := sOne) lUo c_Uo k_Uo
  have bUo := FUo.binds (ps := ["first", "second"]) fun _ _ _ _ _ _ us hl => match us, hl with | [_, _], _ => rfl
  have gUo' := PySem.W.mg_of X G aUo
  have FSa := fun_mk (st := sSigns) lSa c_Sa k_Sa
  have bSa := FSa.binds (ps := ["j", "wanted"]) fun _ _ _ _ _ _ us hl => match us, hl with | [_, _], _ => rfl
  have gSa' := PySem.W.mg_of X G aSa
  have FUg := fun_mk (st := sUog) lUg c_Ug k_Ug
  have bUg := FUg.binds (ps := ["j", "wanted"]) fun _ _ _ _ _ _ us hl => match us, hl with | [_, _], _ => rfl
  have gUg' := PySem.W.mg_of X G aUg
  have FRa := fun_mk (st := sRunAft) lRa c_Ra k_Ra
  have bRa := FRa.binds (ps := ["run", "wanted"]) fun _ _ _ _ _ _ us hl => match us, hl with | [_, _], _ => rfl
  have gRa' := PySem.W.mg_of X G aRa
  have FRu := fun_mk (st := sRou) lRu c_Ru k_Ru
  have bRu := FRu.binds (ps := ["total", "wanted"]) fun _ _ _ _ _ _ us hl => match us, hl with | [_, _], _ => rfl
  have gRu' := PySem.W.mg_of X G aRu
  have FUn := fun_mk (st := sUnits) lUn c_Un k_Un
  have bUn := FUn.binds (ps := ["run", "wanted"]) fun _ _ _ _ _ _ us hl => match us, hl with | [_, _], _ => rfl
  have gUn' := PySem.W.mg_of X G aUn
  have FMg := fun_mk (st := sMerged) lMg c_Mg k_Mg
  have bMg := FMg.binds (ps := ["groups"]) fun _ _ _ _ _ _ us hl => match us, hl with | [_], _ => rfl
  have gMg' := PySem.W.mg_of X G aMg
  have FCv := fun_mk (st := sConv) lCv c_Cv k_Cv
  have bCv := FCv.binds (ps := ["run", "chain"]) fun _ _ _ _ _ _ us hl => match us, hl with | [_, _], _ => rfl
  have gCv' := PySem.W.mg_of X G aCv
  have FSz := fun_mk (st := sSize) lSz c_Sz k_Sz
  have bSz := FSz.binds (ps := ["run"]) fun _ _ _ _ _ _ us hl => match us, hl with | [_], _ => rfl
  have gSz' := PySem.W.mg_of X G aSz
  have FLr := fun_mk (st := sLRng) lLr c_Lr k_Lr
  have bLr := FLr.binds (ps := ["script"]) fun _ _ _ _ _ _ us hl => match us, hl with | [_], _ => rfl
  have gLr' := PySem.W.mg_of X G aLr
  have FLd := fun_mk (st := sLDraw) lLd c_Ld k_Ld
  have bLd := FLd.binds (ps := ["rng", "limit"]) fun _ _ _ _ _ _ us hl => match us, hl with | [_, _], _ => rfl
  have gLd' := PySem.W.mg_of X G aLd
  have FLu := fun_mk (st := sLRun) lLu c_Lu k_Lu
  have bLu := FLu.binds (ps := ["rng", "most"]) fun _ _ _ _ _ _ us hl => match us, hl with | [_, _], _ => rfl
  have gLu' := PySem.W.mg_of X G aLu
  have FLa := fun_mk (st := sLAfter) lLa c_La k_La
  have bLa := FLa.binds (ps := ["piece", "step"]) fun _ _ _ _ _ _ us hl => match us, hl with | [_, _], _ => rfl
  have gLa' := PySem.W.mg_of X G aLa
  have FLs := fun_mk (st := sLSize) lLs c_Ls k_Ls
  have bLs := FLs.binds (ps := ["piece"]) fun _ _ _ _ _ _ us hl => match us, hl with | [_], _ => rfl
  have gLs' := PySem.W.mg_of X G aLs
  have FLt := fun_mk (st := sLRight) lLt c_Lt k_Lt
  have bLt := FLt.binds (ps := ["rng", "piece", "some"]) fun _ _ _ _ _ _ us hl => match us, hl with | [_, _, _], _ => rfl
  have gLt' := PySem.W.mg_of X G aLt
  have FW := fun_mk (st := sLaw) lW c_W k_W
  have gW' := PySem.W.mg_of X G aW
  have m_abs := PySem.W.mg_none_of X G z_abs
  have m_enumerate := PySem.W.mg_none_of X G z_enumerate
  have m_int := PySem.W.mg_none_of X G z_int
  have m_len := PySem.W.mg_none_of X G z_len
  have m_max := PySem.W.mg_none_of X G z_max
  have m_min := PySem.W.mg_none_of X G z_min
  have m_range := PySem.W.mg_none_of X G z_range
  have m_repr := PySem.W.mg_none_of X G z_repr
  have m_sum := PySem.W.mg_none_of X G z_sum
  have gSt := PySem.W.mg_of X G gS
  have tN : ∀ H : Hp, FmAt K H (.ref aN) nothing := fun H => ⟨aN, rfl, .inr ⟨_, _, _, hN, rfl, rfl, sz5 (by simp), .cons ⟨_, rfl⟩ (.cons ⟨_, rfl⟩ (.cons ⟨_, rfl⟩ .nil))⟩⟩
  have TS : StepT K w mg aN aS := ⟨PySem.W.mg_of X G gN, tN, PySem.W.mg_of X G gQ, fun c hc => by
    have hc' : c ∈ [85, 68, 77, 78] := hc
    simp only [List.mem_cons, List.not_mem_nil, or_false] at hc'
    rcases hc' with rfl | rfl | rfl | rfl
    · exact ⟨.ref aU, ⟨_, _, _, hS, kS, sU, rfl⟩, fun H => ⟨aU, rfl, .inr ⟨_, _, _, hUt, rfl, rfl, sz5 (by simp), .cons ⟨_, rfl⟩ (.cons ⟨_, rfl⟩ (.cons ⟨_, rfl⟩ .nil))⟩⟩⟩
    · exact ⟨.ref aD, ⟨_, _, _, hS, kS, sD, rfl⟩, fun H => ⟨aD, rfl, .inr ⟨_, _, _, hDt, rfl, rfl, sz5 (by simp), .cons ⟨_, rfl⟩ (.cons ⟨_, rfl⟩ (.cons ⟨_, rfl⟩ .nil))⟩⟩⟩
    · exact ⟨.ref aM, ⟨_, _, _, hS, kS, sM, rfl⟩, fun H => ⟨aM, rfl, .inr ⟨_, _, _, hMt, rfl, rfl, sz5 (by simp), .cons ⟨_, rfl⟩ (.cons ⟨_, rfl⟩ (.cons ⟨_, rfl⟩ (.cons ⟨_, rfl⟩ (.cons ⟨_, rfl⟩ .nil))))⟩⟩⟩
    · exact ⟨.ref aQ, ⟨_, _, _, hS, kS, sN, rfl⟩, fun H => ⟨aQ, rfl, .inr ⟨_, _, _, hNt, rfl, rfl, sz5 (by simp), .cons ⟨_, rfl⟩ (.cons ⟨_, rfl⟩ (.cons ⟨_, rfl⟩ (.cons ⟨_, rfl⟩ .nil)))⟩⟩⟩⟩
  refine ⟨PySem.W.fnOf "law" "law" (defArgs sLaw) (defBody sLaw) (defScope sLaw) .none kVW docW pmW anW cdW ctW, fun s v => .of_eq rfl, fun base _ _ => ?_⟩
  have GCc : FnOk P w K mg base CX0 1 fCc _ ["chain"] spChkChain := ok_chkChain FCc m_enumerate gSt
  have GCr : FnOk P w K mg base CX0 1 fCr _ ["run"] (spChkRun K) := ok_chkRun FCr m_enumerate
  have GSa : FnOk P w K mg base CX0 1 fSa _ ["j", "wanted"] (spSigns K) := ok_signs FSa m_max
  have GUg : FnOk P w K mg base CX0 2 fUg _ ["j", "wanted"] (spUog K) := ok_uog FUg GSa k_Sa bSa gSa'
  have GUo : FnOk P w K mg base CX0 3 fUo _ ["first", "second"] (spOne K) := ok_one FUo GUg k_Ug bUg gUg'
  have GAk : FnOk P w K mg base CX0 1 fAk _ ["first", "second"] (spAftKeep K) := ok_aftKeep FAk m_max
  have GBk : FnOk P w K mg base CX0 2 fBk _ ["first", "second"] (spBefKeep K) := ok_befKeep FBk GSa k_Sa bSa gSa'
  have GBo : FnOk P w K mg base CX0 4 fBo _ ["first", "second"] (spBoth K) := ok_both FBo (GAk.mono (by decide)) k_Ak bAk gAk' (GBk.mono (by decide)) k_Bk bBk gBk' GUo k_Uo bUo gUo'
  have GFo : FnOk P w K mg base CX0 5 fFo _ ["chain"] (spFoc K) := ok_foc FFo TS GBo k_Bo bBo gBo'
  have GMg : FnOk P w K mg base CX0 1 fMg _ ["groups"] (spMerged K) := ok_merged FMg
  have GRu : FnOk P w K mg base CX0 1 fRu _ ["total", "wanted"] (spRou K) := ok_rou FRu
  have GUn : FnOk P w K mg base CX0 3 fUn _ ["run", "wanted"] (spUnits K) := ok_units FUn GUg k_Ug bUg gUg' m_sum
  have GRa : FnOk P w K mg base CX0 4 fRa _ ["run", "wanted"] (spRunAft K) := ok_runAft FRa (GSa.mono (by decide)) k_Sa bSa gSa' (GMg.mono (by decide)) k_Mg bMg gMg' GUn k_Un bUn gUn' (GRu.mono (by decide)) k_Ru bRu gRu'
  have GCv : FnOk P w K mg base CX0 6 fCv _ ["run", "chain"] (spConv K) := ok_conv FCv (GCr.mono (by decide)) k_Cr bCr gCr' (GCc.mono (by decide)) k_Cc bCc gCc' GFo k_Fo bFo gFo' (GRa.mono (by decide)) k_Ra bRa gRa'
  have GSz : FnOk P w K mg base CX0 4 fSz _ ["run"] (spSize K) := ok_size FSz TS (GCr.mono (by decide)) k_Cr bCr gCr' GUn k_Un bUn gUn'
  have GLr : FnOk P w K mg base CX0 1 fLr _ ["script"] (spRng K) := ok_rng FLr m_abs
  have GLd : FnOk P w K mg base CX0 1 fLd _ ["rng", "limit"] spDraw := ok_draw FLd
  have GLu : FnOk P w K mg base CX0 2 fLu _ ["rng", "most"] (spLRun K) := ok_lrun FLu m_range GLd k_Ld bLd gLd'
  have GLa : FnOk P w K mg base CX0 1 fLa _ ["piece", "step"] (spLAfter K) := ok_lafter FLa ⟨m_int, m_max⟩
  have GLs : FnOk P w K mg base CX0 1 fLs _ ["piece"] (spLSize K) := ok_lsize FLs ⟨m_sum⟩
  have GLt : FnG P w K mg base CX0 7 fLt _ ["rng", "piece", "some"] (spLRight K) := ok_lright FLt ⟨m_repr, m_len⟩ ⟨GLa.mono (by decide), k_La, bLa, gLa'⟩ ⟨GCv, k_Cv, bCv, gCv'⟩ (kb21 FCv fun _ _ _ _ _ _ _ _ => rfl) ⟨GSz.mono (by decide), k_Sz, bSz, gSz'⟩ (kb1 FSz fun _ _ _ _ _ _ _ => rfl) ⟨GLs.mono (by decide), k_Ls, bLs, gLs'⟩ ⟨GLd.mono (by decide), k_Ld, bLd, gLd'⟩
  exact ok_law FW ⟨m_range, m_min, m_len, m_repr⟩ ⟨GLr.mono (by decide), k_Lr, bLr, gLr'⟩ ⟨GLu.mono (by decide), k_Lu, bLu, gLu'⟩ ⟨GLt, k_Lt, bLt, gLt'⟩ ⟨GLd.mono (by decide), k_Ld, bLd, gLd'⟩ ⟨GCv.mono (by decide), k_Cv, bCv, gCv'⟩
end Lw
open PySem PySem.W PyProof.Rows
set_option maxRecDepth 100000 in
set_option maxHeartbeats 0 in
theorem PySem.Challenge.cw_lineends_k03_runs_converted_holds : PySem.Challenge.rw_lineends_k03_runs_converted.Holds := by
  w_on; o_law; k_head; (case hw => w_witness2)
  k_fill
  refine Lx.endG (l := PySem.Challenge.rw_lineends_k03_runs_converted) (n := 63) (k := 8) (x := "script") (CX := fun _ => L2.CX0) (sp := fun w => Lw.spLaw _) rfl (by decide) rfl ⟨rfl, by decide, by decide⟩ (fun w h Y => PySem.W.kIn_of Y) ?F (fun _ _ a ns hl hS => ⟨a, ns, rfl, hS, hl, fun _ => rfl⟩) (fun _ _ _ _ _ h => h)
  case F =>
    intro w mg fa h KX G hmg
    refine' Lw.all_mk KX G hmg ?aCc ?lCc ?c_Cc ?k_Cc ?aCr ?lCr ?c_Cr ?k_Cr ?aFo ?lFo ?c_Fo ?k_Fo ?aBo ?lBo ?c_Bo ?k_Bo ?aAk ?lAk ?c_Ak ?k_Ak ?aBk ?lBk ?c_Bk ?k_Bk ?aUo ?lUo ?c_Uo ?k_Uo ?aSa ?lSa ?c_Sa ?k_Sa ?aUg ?lUg ?c_Ug ?k_Ug ?aRa ?lRa ?c_Ra ?k_Ra ?aRu ?lRu ?c_Ru ?k_Ru ?aUn ?lUn ?c_Un ?k_Un ?aMg ?lMg ?c_Mg ?k_Mg ?aCv ?lCv ?c_Cv ?k_Cv ?aSz ?lSz ?c_Sz ?k_Sz ?aLr ?lLr ?c_Lr ?k_Lr ?aLd ?lLd ?c_Ld ?k_Ld ?aLu ?lLu ?c_Lu ?k_Lu ?aLa ?lLa ?c_La ?k_La ?aLs ?lLs ?c_Ls ?k_Ls ?aLt ?lLt ?c_Lt ?k_Lt ?aW ?lW ?c_W ?k_W ?z_abs ?z_enumerate ?z_int ?z_len ?z_max ?z_min ?z_range ?z_repr ?z_sum ?gS ?gN ?hN ?gQ ?hS ?kS ?sU ?hUt ?sD ?hDt ?sM ?hMt ?sN ?hNt
    (case aCc => k_is)
    (case lCc => k_is)
    (case c_Cc => k_is)
    (case k_Cc => k_is)
    (case aCr => k_is)
    (case lCr => k_is)
    (case c_Cr => k_is)
    (case k_Cr => k_is)
    (case aFo => k_is)
    (case lFo => k_is)
    (case c_Fo => k_is)
    (case k_Fo => k_is)
    (case aBo => k_is)
    (case lBo => k_is)
    (case c_Bo => k_is)
    (case k_Bo => k_is)
    (case aAk => k_is)
    (case lAk => k_is)
    (case c_Ak => k_is)
    (case k_Ak => k_is)
    (case aBk => k_is)
    (case lBk => k_is)
    (case c_Bk => k_is)
    (case k_Bk => k_is)
    (case aUo => k_is)
    (case lUo => k_is)
    (case c_Uo => k_is)
    (case k_Uo => k_is)
    (case aSa => k_is)
    (case lSa => k_is)
    (case c_Sa => k_is)
    (case k_Sa => k_is)
    (case aUg => k_is)
    (case lUg => k_is)
    (case c_Ug => k_is)
    (case k_Ug => k_is)
    (case aRa => k_is)
    (case lRa => k_is)
    (case c_Ra => k_is)
    (case k_Ra => k_is)
    (case aRu => k_is)
    (case lRu => k_is)
    (case c_Ru => k_is)
    (case k_Ru => k_is)
    (case aUn => k_is)
    (case lUn => k_is)
    (case c_Un => k_is)
    (case k_Un => k_is)
    (case aMg => k_is)
    (case lMg => k_is)
    (case c_Mg => k_is)
    (case k_Mg => k_is)
    (case aCv => k_is)
    (case lCv => k_is)
    (case c_Cv => k_is)
    (case k_Cv => k_is)
    (case aSz => k_is)
    (case lSz => k_is)
    (case c_Sz => k_is)
    (case k_Sz => k_is)
    (case aLr => k_is)
    (case lLr => k_is)
    (case c_Lr => k_is)
    (case k_Lr => k_is)
    (case aLd => k_is)
    (case lLd => k_is)
    (case c_Ld => k_is)
    (case k_Ld => k_is)
    (case aLu => k_is)
    (case lLu => k_is)
    (case c_Lu => k_is)
    (case k_Lu => k_is)
    (case aLa => k_is)
    (case lLa => k_is)
    (case c_La => k_is)
    (case k_La => k_is)
    (case aLs => k_is)
    (case lLs => k_is)
    (case c_Ls => k_is)
    (case k_Ls => k_is)
    (case aLt => k_is)
    (case lLt => k_is)
    (case c_Lt => k_is)
    (case k_Lt => k_is)
    (case aW => k_is)
    (case lW => k_is)
    (case c_W => k_is)
    (case k_W => k_is)
    (case z_abs => k_is)
    (case z_enumerate => k_is)
    (case z_int => k_is)
    (case z_len => k_is)
    (case z_max => k_is)
    (case z_min => k_is)
    (case z_range => k_is)
    (case z_repr => k_is)
    (case z_sum => k_is)
    (case gS => k_is)
    (case gN => k_is)
    (case hN => k_is)
    (case gQ => k_is)
    (case hS => k_is)
    (case kS => exact ⟨⟨_, _, rfl, rfl⟩, ⟨_, _, rfl, rfl⟩, ⟨_, _, rfl, rfl⟩, ⟨_, _, rfl, rfl⟩, trivial⟩)
    (case sU => k_is)
    (case hUt => k_is)
    (case sD => k_is)
    (case hDt => k_is)
    (case sM => k_is)
    (case hMt => k_is)
    (case sN => k_is)
    (case hNt => k_is)
