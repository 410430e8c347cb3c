import PyProof.Rows.All
import Wide.All
import OpenK.AllK
import Wide.FinOn
import KE.KFromBytes
import KE.KExcSuper
import HandS.Base
import HandS.Call
import HandS.Exc
import HandS.Ends
import HandS.Words
import KE.KExcIs
import HandS.ForExc
import HandS.ForMost
import HandS.IsInst
import HandS.Walk
import HandS.TupAny
import HandS.More
import PyProof.WalkInts
import KE.GoesMore
import PyProof.EnumMake
import PyProof.EnumFor
import HandS.Wide
import HandS.WideMore
import PyProof.ReprBulk
import HandS.MakeKwOnly
import PyProof.StrOps2
import HandS.Dict
import HandS.WideBits
import HandS.WordsExc
import HandS.SetFor
import HandS.Star
import HandS.ExcIs
import HandS.HotCalls
import HandS.NoneIn
import HandS.Small
import PySem.Challenge.RW_lineends_k32_staying_and_tracing_errors
set_option Elab.async false
set_option linter.all false
set_option maxRecDepth 100000
set_option maxHeartbeats 4000000
/-! An own error class over ValueError, called by position or by keyword: what it leaves. -/
namespace Lx
open PySem PySem.HandSPX
open PySem.W (Looks)
section
variable {M : Model} {prog : Program} {w : World} {A : Around} {E : Value → Shared → Prop} {R : Result → Shared → Prop}
variable {h : Heap} {gn : Array GenState} {dr : Drawn} {tk : Nat} {os : OsState}
variable {nm q : Str} {C N : Addr} {bs bm bmB : List Value} {hd : Bool} {sn : List Str} {sub : List Value} {ab : Bool} {col : Option Bool} {dd : Option Addr} {k0 k1 k2 k3 k5 : Option Value} {B nid iid : String}
/-- the maker's own check, with keywords -/
theorem newCheck (F : ExcBaseFacts B nid iid bmB) (hT : ∀ Y : String, bm.contains (.type Y) = bmB.contains (.type Y)) {pos : List Value} {kw : List (Str × Value)} {Q : Unit → Shared → Prop}
    (hC : h.get? C = some (excClassObj nm q C N bs bm hd sn sub ab col dd k0 k1 k2 k3 k5 nid)) (hq : Q () ⟨h, gn, dr, tk, os⟩) :
    wpAny M A (checkBuiltinCall nid ⟨.ref C :: pos, kw⟩) Q E ⟨h, gn, dr, tk, os⟩ := by
  have c0 : (Value.ref C :: bm).contains (.type B) = true := by
    rw [List.contains_cons, hT, F.hasB, Bool.or_true]
  have c1 := F.noStar
  simp only [checkBuiltinCall, F.newKind, F.newSplit, F.newRow]
  repeat (first
    | refine wpAny_loadPart_at hC ?_
    | (refine wpAny_isSubtype_exc hC ?_; rw [c0])
    | refine wpAny_staticBase_exc hC ?_
    | refine wpAny_madeBy_exc hC ?_
    | simp only [bne_self_eq_false, Bool.false_eq_true, if_false]
    | wp_step)
  exact hq
/-- the maker: the arguments by position alone are laid -/
theorem newMakes (F : ExcBaseFacts B nid iid bmB) (hT : ∀ Y : String, bm.contains (.type Y) = bmB.contains (.type Y)) {pos : List Value} {kw : List (Str × Value)}
    (hC : h.get? C = some (excClassObj nm q C N bs bm hd sn sub ab col dd k0 k1 k2 k3 k5 nid)) (hl : pos.length ≤ sizeLine)
    (hq : R (.ok (.ret (.ref (h.objs.size + 1)))) ⟨(h.push (W.kdv_tup pos)).push (excO C h.objs.size), gn, dr, tk, os⟩) :
    codeAny (model prog w) A (.builtin nid ⟨.ref C :: pos, kw⟩) R ⟨h, gn, dr, tk, os⟩ := by
  have e1 := F.ends
  have c0 : (Value.ref C :: bm).contains (.type B) = true := by
    rw [List.contains_cons, hT, F.hasB, Bool.or_true]
  have c1 : (Value.ref C :: bm).contains (.type "AttributeError") = false := by
    rw [List.contains_cons, hT, F.noAttr]; rfl
  have c2 : (Value.ref C :: bm).contains (.type "NameError") = false := by
    rw [List.contains_cons, hT, F.noName]; rfl
  refine codeAny_builtinAt F.entry ?_
  unfold Builtin.«BaseException.__new__»
  refine wpAt_bind ?_
  show wpAt _ _ _ (stack >>= _) _ _ _
  refine wpAt_bind (wpAt_stack fun p below => wpAt_of_wpAny ?_)
  wp_walk
  refine wpAt_of_wpAny ?_
  rw [F.owner]
  repeat (first
    | with_reducible refine wpAny_madeHere_exc F.canon hC ?_
    | with_reducible refine wpAny_loadPart_at hC ?_
    | (with_reducible refine wpAny_isSubtype_exc hC ?_; first | rw [c0] | rw [c1] | rw [c2])
    | wp_step)
  show R _ _
  rw [Heap.size_push]
  exact hq
/-- the class's call: the maker, then the class's own __init__ -/
theorem typeCalls (F : ExcBaseFacts B nid iid bmB) (hT : ∀ Y : String, bm.contains (.type Y) = bmB.contains (.type Y)) {pos : List Value} {kw : List (Str × Value)} {fI : Addr} {Q : Fin → Shared → Prop}
    (hC : h.get? C = some (excClassObj nm q C N bs bm hd sn sub ab col dd k0 k1 k2 k3 k5 nid))
    (hi : Looks (model prog w) h (typeLookup (.ref C) "__init__") (some (.ref fI))) (hb : ∀ self, Looks (model prog w) h (bindSpecial (.ref fI) self) (.ref fI, [self])) (hl : pos.length ≤ sizeLine)
    (hq : codeAny (model prog w) A (.call (.ref fI) ⟨.ref (h.objs.size + 1) :: pos, kw⟩)
      (fun r s' => match r with | .ok (.ret v) => v = .none ∧ Q (.done (.ret (.ref (h.objs.size + 1)))) s' | .ok _ => False | .error e => E e s')
      ⟨(h.push (W.kdv_tup pos)).push (excO C h.objs.size), gn, dr, tk, os⟩) :
    wpAny (model prog w) A (Builtin.«type.__call__» ⟨.ref C :: pos, kw⟩) Q E ⟨h, gn, dr, tk, os⟩ := by
  repeat (first | with_reducible refine wpAny_loadPart_at hC ?_ | with_reducible refine wpAny_madeBy_exc hC ?_ | wp_step)
  refine codeAny_call_builtin_code (Code.quiet_builtin _ F.quiet) (newCheck F hT hC ?_)
  refine newMakes F hT hC hl ?_
  show wpAny _ _ _ _ _ _
  have kp : ∀ b o, h.get? b = some o → ((h.push (W.kdv_tup pos)).push (excO C h.objs.size)).get? b = some o := fun b o e => Heap.get?_push_of_some _ (Heap.get?_push_of_some _ e)
  have hC1 := kp _ _ hC
  have hg : ((h.push (W.kdv_tup pos)).push (excO C h.objs.size)).get? (h.objs.size + 1) = some (excO C h.objs.size) := by heap_get
  have hs : (Value.ref C :: bm).contains (.ref C) = true := by simp
  have i1 := hi.keeps kp
  have b1 := (hb (.ref (h.objs.size + 1))).keeps kp
  unfold isInstance
  repeat (first | with_reducible refine wpAny_loadPart_at hg ?_ | (with_reducible refine wpAny_isSubtype_exc hC1 ?_; rw [hs]) | wp_step)
  show wpAny _ _ (typeLookup (.ref C) _) _ _ _
  refine i1.at ?_
  refine wpAny_holding (wpAny_bind (b1.at ?_))
  refine wpAny_bind (wpAny_call (codeAny_mono hq fun r s' z => ?_))
  rcases r with e | (v | _ | _ | _) <;> first | exact z | exact z.elim | skip
  obtain ⟨rfl, z⟩ := z
  first
    | exact wpAny_pure (wpAny_pure z)
    | (wp_walk; exact z)
end
end Lx
namespace Lx
open PySem PySem.HandSPX
open PySem.W (Looks)
open L2 (defArgs defBody defScope)
/-! ### the text of an error's __init__ -/
def inA (a b : Pos) : Arguments := { posonlyargs := [], args := [{ arg := "self", annotation := none, pos := a }, { arg := "value", annotation := none, pos := b }], vararg := none, kwonlyargs := [], kw_defaults := [], kwarg := none, defaults := [] }
def inB (msg : Str) (a b c d e f g i j k : Pos) : List Stmt :=
  [.Expr (.Call (.Attribute (.Call (.Name "super" a) [] [] b) "__init__" c) [.Constant (.str msg) 0 d] [] e) f, .Assign [.Attribute (.Name "self" g) "value" i] (.Name "value" j) k]
def SupCall (msg : Str) (a b c d e : Pos) : Prop := ∀ env : Env, ∃ pl : Sem Bool, eval (.Call (.Attribute (.Call (.Name "super" a) [] [] b) "__init__" c) [.Constant (.str msg) 0 d] [] e) env = (do
  let ov ← attributeBase (.Call (.Name "super" a) [] [] b) "__init__" env (eval (.Call (.Name "super" a) [] [] b) env)
  standAt c.atName
  let (f, first) ← holding [ov] (getMethod ov "__init__" pl)
  callWith e f first (backTo e (starEach [.Constant (.str msg) 0 d] env)) [])
def inS : Scope := { kind := .function, names := [(PySem.Str.ofString "self", .local), (PySem.Str.ofString "value", .local), (PySem.Str.ofString "__class__", .free), (PySem.Str.ofString "super", .globalImplicit)], isGenerator := false, isCoroutine := false, more := [] }
/-- what the written part says of the errors' own base, at L -/
structure LineC (K : PySem.W.Frag) (mg : Str → Option Value) (L : Addr) : Prop where
  gL : mg "LineError" = some (.ref L)
  cls : ∃ n q N bs sn sub ab col dd k0 k1 k2 k3 k5, K.lookup L = some (excClassObj n q L N bs HandSPX.veTail true sn sub ab col dd k0 k1 k2 k3 k5 "ValueError.__new__")
  ini : PySem.W.findIn K (.ref L) "__init__" = some (some (.builtin "ValueError.__init__"))
  ty : PySem.W.typeIn K (.ref L) = some (.type "type")
  exB : PySem.W.subIn K (.ref L) (.type "BaseException") = some true
  sup : PySem.W.nsIn K mainGlobals "super" = some none
  opq : PySem.W.nsIn K cStatics "thirdparty.any" = some none
  sp : PySem.W.specialIn K (.builtin "object.__class__") "__get__" = some (some (.builtin "getset_descriptor.__get__"))
  tk : PySem.W.takesIn K (.builtin "object.__class__") = some true
/-- what the written part says of an error class at C, whose base stands at L; st is the text of its __init__, qual that def's long name, nm the class's name -/
structure ErrC (K : PySem.W.Frag) (file : Str) (mg : Str → Option Value) (L : Addr) (nm qual : Str) (st : Stmt) (C : Addr) : Prop where
  gC : mg nm = some (.ref C)
  cls : ∃ n q N bs sn sub ab col dd k0 k1 k2 k3 k5, K.lookup C = some (excClassObj n q C N bs (.ref L :: HandSPX.veTail) true sn sub ab col dd k0 k1 k2 k3 k5 "ValueError.__new__")
  sa : PySem.W.findIn K (.ref C) "__setattr__" = some (some (.builtin "object.__setattr__"))
  ga : PySem.W.findIn K (.ref C) "__getattribute__" = some (some (.builtin "BaseException.__getattribute__"))
  gg : PySem.W.findIn K (.ref C) "__getattr__" = some none
  ca : PySem.W.findIn K (.ref C) "__class__" = some (some (.builtin "object.__class__"))
  nv : PySem.W.findIn K (.ref C) "value" = some none
  ty : PySem.W.typeIn K (.ref C) = some (.type "type")
  kp : PySem.W.keepIn K (.ref C) = true
  init : ∃ fI : Addr, PySem.W.findIn K (.ref C) "__init__" = some (some (.ref fI)) ∧ PySem.W.typeIn K (.ref fI) = some (.type "function") ∧
    ∃ (oc : Value) (od : Option Addr) (doc pm : Value) (an : Option Addr) (cc cda : Addr) (ct : Value) (osl : Array (Option Value)),
      K.lookup fI = some ⟨oc, od, .func (PySem.W.fnX "__init__" qual (defArgs st) (defBody st) (defScope st) [("__class__", cc)] .none .none doc pm an (.ref cda) ct), osl⟩ ∧ PySem.W.codeIn K (.ref cda) qual = true ∧
      (∃ (cl : Value) (cd : Option Addr) (vs : Array Value) (cs : Array (Option Value)) (tf : Tok), K.lookup cda = some ⟨cl, cd, .fields vs, cs⟩ ∧ vs[2]? = some (.str file tf)) ∧
      ∃ (cl : Value) (cd : Option Addr) (cs : Array (Option Value)), K.lookup cc = some ⟨cl, cd, .cell (some (.ref C)), cs⟩
  tA : ∃ a b, defArgs st = inA a b
  tB : ∃ msg a b c d e f g i j k, defBody st = inB msg a b c d e f g i j k ∧ SupCall msg a b c d e
  tS : defScope st = inS
theorem LineC.along {K : PySem.W.Frag} {mg : Str → Option Value} {L : Addr} (T : LineC K mg L) : PySem.W.alongIn K "__init__" (.ref L :: HandSPX.veTail) = some (some (.builtin "ValueError.__init__")) := by
  obtain ⟨n, q, N, bs, sn, sub, ab, col, dd, k0, k1, k2, k3, k5, hL⟩ := T.cls
  have e := T.ini
  simp only [PySem.W.findIn, hL] at e
  exact e
/-- the chain of classes above C -/
theorem ErrC.chain {K : PySem.W.Frag} {file : Str} {mg : Str → Option Value} {L C : Addr} {nm qual : Str} {st : Stmt} (T : ErrC K file mg L nm qual st C) : ∃ cd : ClassData, PySem.W.clsIn K C = some cd ∧ cd.mro = .ref C :: .ref L :: HandSPX.veTail ∧ cd.hasDict = true := by
  obtain ⟨n, q, N, bs, sn, sub, ab, col, dd, k0, k1, k2, k3, k5, hC⟩ := T.cls
  exact ⟨{ name := n, bases := bs, mro := .ref C :: .ref L :: HandSPX.veTail, ns := N, qualname := q, hasDict := true, slotNames := sn, subclasses := sub, abstract := ab, collection := col, hasDel := false }, by unfold PySem.W.clsIn; rw [hC] <;> rfl, rfl, rfl⟩
theorem ErrC.under {K : PySem.W.Frag} {file : Str} {mg : Str → Option Value} {L C : Addr} {nm qual : Str} {st : Stmt} (T : ErrC K file mg L nm qual st C) (b : Value) : PySem.W.mroIn K C b = some ((Value.ref C :: .ref L :: HandSPX.veTail).contains b) := by
  obtain ⟨cd, e1, e2, _⟩ := T.chain
  unfold PySem.W.mroIn
  rw [e1, Option.bind_some, e2]
  rfl
section
variable {prog : Program} {w : World} {A : Around} {E : Value → Shared → Prop} {R : Result → Shared → Prop} {M : Model}
variable {h : Heap} {gn : Array GenState} {dr : Drawn} {tk : Nat} {os : OsState}
variable {nm q : Str} {C N : Addr} {bs bm bmB : List Value} {hdt : Bool} {sn : List Str} {sub : List Value} {ab : Bool} {col : Option Bool} {dd : Option Addr} {k0 k1 k2 k3 k5 : Option Value} {B nid iid : String}
theorem tcCheck {pos : List Value} {kw : List (Str × Value)} {Q : Unit → Shared → Prop} (hC : h.get? C = some (excClassObj nm q C N bs bm hdt sn sub ab col dd k0 k1 k2 k3 k5 nid)) (hq : Q () ⟨h, gn, dr, tk, os⟩) :
    wpAny M A (checkBuiltinCall "type.__call__" ⟨.ref C :: pos, kw⟩) Q E ⟨h, gn, dr, tk, os⟩ := by
  have f3 := tc_sub
  have hT : (⟨h, gn, dr, tk, os⟩ : Shared).TypeIs (.ref C) "type" := ⟨_, hC, rfl⟩
  simp only [checkBuiltinCall, tc_kind, tc_split]
  repeat (any_goals (first | assumption | with_reducible refine wpAny_loadPart_at hC ?_ | with_reducible refine wpAny_onRaise ?_ | with_reducible refine wpAny_map ?_ | wp_step))
theorem clsCalls (F : ExcBaseFacts B nid iid bmB) (hT : ∀ Y : String, bm.contains (.type Y) = bmB.contains (.type Y)) {pos : List Value} {kw : List (Str × Value)} {fI : Addr}
    (hC : h.get? C = some (excClassObj nm q C N bs bm hdt sn sub ab col dd k0 k1 k2 k3 k5 nid))
    (hi : Looks (model prog w) h (typeLookup (.ref C) "__init__") (some (.ref fI))) (hb : ∀ self, Looks (model prog w) h (bindSpecial (.ref fI) self) (.ref fI, [self])) (hl : pos.length ≤ sizeLine)
    (hq : codeAny (model prog w) (A.under (.builtin "type.__call__" ⟨.ref C :: pos, kw⟩)) (.call (.ref fI) ⟨.ref (h.objs.size + 1) :: pos, kw⟩) (W.InitBack (h.objs.size + 1) R)
      ⟨(h.push (W.kdv_tup pos)).push (excO C h.objs.size), gn, dr, tk, os⟩) :
    codeAny (model prog w) A (.call (.ref C) ⟨pos, kw⟩) R ⟨h, gn, dr, tk, os⟩ := by
  have f1 := tc_lookup
  have f2 := tc_bind (.ref C)
  have hTy : (⟨h, gn, dr, tk, os⟩ : Shared).TypeIs (.ref C) "type" := ⟨_, hC, rfl⟩
  refine codeAny_of_tree ?_
  show wpAny _ _ (callAny (.ref C) _) _ _ _
  repeat (any_goals (first | assumption | with_reducible refine wpAny_loadPart_at hC ?_ | wp_step))
  refine ⟨rfl, ?_⟩
  refine codeAny_call_builtin_at (Code.quiet_builtin _ (by decide +kernel)) entry_typeCall (tcCheck hC (typeCalls F hT hC hi hb hl ?_))
  refine codeAny_mono hq fun r s' z => ?_
  rcases r with e | (v | _ | _ | _) <;> exact z
end
end Lx
namespace Lx
open PySem PySem.HandSPX
open PySem.W (Looks)
open L2 (defArgs defBody defScope)
/-- what __init__ leaves of a fresh error at x -/
structure InitLeft (h h' : Heap) (x C dx t1 : Addr) (v : Value) : Prop where
  keep : ∀ b o, b ≠ x → h.get? b = some o → h'.get? b = some o
  obj : h'.get? x = some { cls := .ref C, dict := some dx, data := .fields #[.ref t1, .none, .none, .none, .bool false, .none] }
  big : h.objs.size ≤ dx
  ne : dx ≠ x
  ns : h'.Ns1 dx (fun y => if y = "value" then some v else none)
/-- the two ways in which the value is handed over -/
inductive Hands (v : Value) : List Value → List (Str × Value) → Prop where
  | pos : Hands v [v] []
  | kw : Hands v [] [("value", v)]
section
variable {prog : Program} {w : World} {A : Around} {E : Value → Shared → Prop} {R : Result → Shared → Prop} {M : Model} {s : Shared}
variable {K : PySem.W.Frag} {mg mb : Str → Option Value} {nm qual : Str} {st : Stmt} {C L : Addr}
theorem initRuns (TL : LineC K mg L) (T : ErrC K prog.main.file mg L nm qual st C) {x t0 fI : Addr} {v : Value} {ps : List Value} {kw : List (Str × Value)} (hv : Hands v ps kw) (htop : (prog.main.scope.names.lookup ("super" : Str)).isSome = false)
    (hfI : PySem.W.findIn K (.ref C) "__init__" = some (some (.ref fI))) (X : K.In s.heap) (G : s.heap.Ns mainGlobals mg) (gs : mg "super" = none) (B : s.heap.Ns builtinsNs mb) (bs : mb "super" = some (.type "super"))
    (hlim : s.heap.NoLimit) (hnx : K.lookup x = none) (hx : s.heap.get? x = some (excO C t0)) (hroom : A.depth < recursionLimit)
    (hq : ∀ h' tk dx t1, InitLeft s.heap h' x C dx t1 v → R (.ok (.ret .none)) { s with heap := h', toks := tk }) :
    codeAny (model prog w) A (.call (.ref fI) ⟨.ref x :: ps, kw⟩) R s := by
  obtain ⟨n, q, N, bss, sn, sub, ab, col, dd, k0, k1, k2, k3, k5, hC⟩ := T.cls
  obtain ⟨bm, ebm⟩ : ∃ bm, bm = (Value.ref L :: HandSPX.veTail) := ⟨_, rfl⟩
  rw [← ebm] at hC
  have hbm : refsVE bm = true := by rw [ebm]; rfl
  have hal := TL.along
  rw [← ebm] at hal
  obtain ⟨f2, e2, tI, oc, od, doc, pm, an, cc, cda, ct, osl, ho, hcd, ⟨cl, cd, vs, cs, tf, hco, hvs⟩, cl2, cd2, cs2, hce⟩ := T.init
  rw [hfI] at e2
  obtain rfl : fI = f2 := Value.ref.inj (Option.some.inj (Option.some.inj e2))
  obtain ⟨a1, a2, eA⟩ := T.tA
  obtain ⟨msg, p0, p1, p2, p3, p4, p5, q1, q2, q3, q4, eB, hsc⟩ := T.tB
  rw [eA, eB, T.tS] at ho
  have hcl : PySem.W.clsIn K C = some { name := n, bases := bss, mro := .ref C :: bm, ns := N, qualname := q, hasDict := true, slotNames := sn, subclasses := sub, abstract := ab, collection := col, hasDel := false } := by
    unfold PySem.W.clsIn; rw [hC] <;> rfl
  have hcC : (Value.ref C :: bm).contains (.ref C) = true := by simp
  have hbase : ∀ Y : String, bm.contains (.type Y) = HandSPX.veTail.contains (.type Y) := fun Y => refsVE_contains Y bm hbm
  refine ks_codeAny_call_defAt (fd := PySem.W.fnX "__init__" qual (inA a1 a2) (inB msg p0 p1 p2 p3 p4 p5 q1 q2 q3 q4) inS [("__class__", cc)] .none .none doc pm an (.ref cda) ct) (body := inB msg p0 p1 p2 p3 p4 p5 q1 q2 q3 q4)
    (binds := [("self", .ref x), ("value", v)]) hroom (X _ _ ho) rfl hlim (PySem.W.codeRec_of X hcd) rfl ?_ (show ∀ y ∈ inS.names, y.2 ≠ .cell by decide) (by intro y hy; simp only [List.mem_cons, List.not_mem_nil, or_false] at hy; rcases hy with rfl | rfl <;> rfl) (fun h1 hns hk => ?_) rfl rfl rfl
  · cases hv with
    | pos => exact .of_eq (by first | rfl | with_unfolding_all rfl)
    | kw => exact .of_eq (by first | rfl | with_unfolding_all rfl)
  have X1 : K.In h1 := X.keeps hk
  have hx1 := hk _ _ hx
  have hC1 := X1 _ _ hC
  have hxC : x ≠ C := fun z => by
    rw [z] at hx1
    rw [hC1] at hx1
    cases hx1
  have hL : s.heap.objs.size ≠ x := Nat.ne_of_gt (Heap.lt_size hx)
  obtain ⟨pl, hpl⟩ := hsc (callEnv (PySem.W.fnX "__init__" qual (inA a1 a2) (inB msg p0 p1 p2 p3 p4 p5 q1 q2 q3 q4) inS [("__class__", cc)] .none .none doc pm an (.ref cda) ct) s.heap.objs.size fI)
  refine ks_wpAt_execs_cons (ks_wpAt_Expr_any (ks_wpAt_MethodCall (pl := pl) ?_ hpl))
  refine ks_wpAt_super_base (env := callEnv (PySem.W.fnX "__init__" qual (inA a1 a2) (inB msg p0 p1 p2 p3 p4 p5 q1 q2 q3 q4) inS [("__class__", cc)] .none .none doc pm an (.ref cda) ct) s.heap.objs.size fI) rfl rfl rfl rfl (X1 _ _ ho) rfl rfl rfl (X1 _ _ hco) rfl hvs (by simp) htop ?_
  refine PySem.W.ks_loadName_global rfl rfl (Calls.loadGlobal_builtin (mg := mg) (mb := mb) ?_ gs ?_ bs ⟨rfl, ?_⟩)
  · obtain ⟨o, es, ep, e, r⟩ := G
    exact ⟨o, es, ep, hk _ _ e, r⟩
  · obtain ⟨o, es, ep, e, r⟩ := B
    exact ⟨o, es, ep, hk _ _ e, r⟩
  refine wpAny_loadName_free rfl rfl (c := cc) rfl ⟨_, X1 _ _ hce, rfl⟩ ?_
  refine wpAny_loadName_local (m := fun y => ([("self", .ref x), ("value", v)] : List (Str × Value)).reverse.lookup y) rfl rfl hns rfl ?_
  refine ks_wpAny_isType_cls hC1 rfl ⟨rfl, ?_⟩
  refine ks_wpAny_call_super (C := C) hC1 rfl hx1 rfl (fun c e => by cases e) (PySem.W.looks_mroIn X1 (by unfold PySem.W.mroIn; rw [hcl, Option.bind_some, if_neg (by simp), hcC])) (fun h2 hso k2' => ?_)
  have X2 : K.In h2 := X1.keeps k2'
  have hx2 := k2' _ _ hx1
  have I2 : PySem.W.InstAt h2 x (excO C t0) C none := ⟨hx2, rfl, rfl, trivial⟩
  refine PySem.W.kxs_getMethod PySem.W.kxs_ValueError hso (PySem.W.looks_opaque X2 TL.opq) (l₀ := .ref C :: bm) (l := bm) (fun A' Q' E' s' k' q' => wpAny_bind ((PySem.W.looks_clsIn X2 hcl) A' _ E' s' k' (wpAny_pure q')))
    (by simp [List.dropWhile_cons]) X2 hal (I2.type.andThen (PySem.W.looks_mroIn X2 ((T.under _).trans (by rfl)))) hxC (by decide) ?_
  have k3 : ∀ b o, h2.get? b = some o → (h2.push (PySem.W.kxs_mw "ValueError.__init__" x)).get? b = some o := fun b o e => Heap.get?_push_of_some _ e
  have hu : (h2.push (PySem.W.kxs_mw "ValueError.__init__" x)).get? h2.objs.size = some (PySem.W.kxs_mw "ValueError.__init__" x) := Heap.get?_push_at rfl rfl
  refine PySem.W.kxs_callWith (i := "ValueError.__init__") (x := x) (by rfl) ?_
  refine Calls.evalArgs_plain ?_
  refine Calls.spliced_cons (wpAny_Constant_str (k := 0) (pos := p3) (Calls.spliced_nil ⟨hu, ?_⟩))
  have hone : ([.str msg s.toks] : List Value).length ≤ sizeLine := by rw [sizeLine_eq]; exact (by decide : 1 ≤ 16777216)
  refine wpAny_call (codeAny_of_tree ?_)
  show wpAny _ _ (callAny (.ref h2.objs.size) _) _ _ _
  simp only [callAny]
  refine wpAny_bind (wpAny_load hu ?_)
  simp only [PySem.W.kxs_mw, show (Value.type "method-wrapper" == Value.type "method" || Value.type "method-wrapper" == Value.type "builtin_function_or_method" || Value.type "method-wrapper" == Value.type "method-wrapper") = true by decide, if_true]
  refine PySem.W.KFB.if_so (by decide) ?_
  refine wpAny_bind (PySem.W.check_bound_init F.excBase_ValueError.toExcCallFacts (k3 _ _ (k2' _ _ hC1)) (k3 _ _ hx2) rfl ?_)
  refine wpAny_bind (wpAny_pure (wpAny_pure ?_))
  refine ⟨plainId_quiet F.excBase_ValueError.init.plain _, codeAny_builtin F.excBase_ValueError.initEntry ?_⟩
  refine PySem.W.exc_init_tree (cls := .ref C) (t0 := t0) (dv := none) (c2 := .none) (c3 := .none) (b4 := .bool false) (k3 _ _ hx2) (by rw [sizeLine_eq]; exact (by decide : 1 ≤ 16777216)) (fun h3 k4 hx3 _ => ?_)
  show wpAt _ _ _ (execs _ _) _ _ _
  have keep3 : ∀ b o, b ≠ x → h1.get? b = some o → h3.get? b = some o := fun b o hb e => k4 b o hb (k3 _ _ (k2' _ _ e))
  have hns3 : h3.Ns s.heap.objs.size (fun y => ([("self", .ref x), ("value", v)] : List (Str × Value)).reverse.lookup y) := by
    obtain ⟨o, es, ep, e, r⟩ := hns
    exact ⟨o, es, ep, keep3 _ _ hL e, r⟩
  have X3 : K.In h3 := fun a o e => keep3 a o (fun z => by
    rw [z, hnx] at e
    cases e) (X1 a o e)
  refine ks_wpAt_execs_cons (ks_wpAt_Assign_Attr ?_)
  refine wpAt_of_wpAny (wpAny_Name (wpAny_loadName_local rfl rfl hns3 rfl ?_))
  refine wpAny_Name (wpAny_loadName_local rfl rfl hns3 rfl ?_)
  refine PySem.W.set_plain X3 (ox := excO C _) (od := none) ⟨hx3, rfl, rfl, trivial⟩ T.sa ?_
  refine exc_osa X3 hx3 hcl (show refsVE (.ref C :: bm) = true from hbm) rfl T.nv (fun h4 tk4 dx k5 dn dne hx4 hn4 => ?_)
  refine wpAt_of_wpAny (wpAny_pure ?_)
  refine hq h4 tk4 dx _ ⟨fun b o hb e => k5 b o hb (keep3 b o hb (hk b o e)), hx4, Nat.le_trans (Nat.le_of_lt hns3.lt) dn, dne, hn4⟩
end
end Lx
namespace Lx
open PySem PySem.HandSPX
/-- a made error, at e, its own dict at d -/
structure ErrMade (h h' : Heap) (e C d : Addr) (v : Value) : Prop where
  keep : ∀ b o, h.get? b = some o → h'.get? b = some o
  ebig : h.objs.size ≤ e
  obj : ∃ t1 : Addr, h'.get? e = some { cls := .ref C, dict := some d, data := .fields #[.ref t1, .none, .none, .none, .bool false, .none] }
  dbig : h.objs.size ≤ d
  ne : d ≠ e
  ns : h'.Ns1 d (fun y => if y = "value" then some v else none)
section
variable {prog : Program} {w : World} {A : Around} {R : Result → Shared → Prop} {s : Shared}
variable {K : PySem.W.Frag} {mg mb : Str → Option Value} {nm qual : Str} {st : Stmt} {C L : Addr}
theorem errMade (TL : LineC K mg L) (T : ErrC K prog.main.file mg L nm qual st C) {v : Value} {ps : List Value} {kw : List (Str × Value)} (hv : Hands v ps kw) (htop : (prog.main.scope.names.lookup ("super" : Str)).isSome = false)
    (X : K.In s.heap) (G : s.heap.Ns mainGlobals mg) (gs : mg "super" = none) (B : s.heap.Ns builtinsNs mb) (bs : mb "super" = some (.type "super")) (hlim : s.heap.NoLimit) (hroom : A.depth + 1 < recursionLimit)
    (hq : ∀ h' tk e d, ErrMade s.heap h' e C d v → R (.ok (.ret (.ref e))) { s with heap := h', toks := tk }) : codeAny (model prog w) A (.call (.ref C) ⟨ps, kw⟩) R s := by
  obtain ⟨n, q, N, bss, sn, sub, ab, col, dd, k0, k1, k2, k3, k5, hC⟩ := T.cls
  obtain ⟨fI, iC, tI, _⟩ := T.init
  obtain ⟨hp, g, dr, tk, os⟩ := s
  have kp : ∀ b o, hp.get? b = some o → ((hp.push (W.kdv_tup ps)).push (excO C hp.objs.size)).get? b = some o := fun b o e => Heap.get?_push_of_some _ (Heap.get?_push_of_some _ e)
  have hget : ((hp.push (W.kdv_tup ps)).push (excO C hp.objs.size)).get? (hp.objs.size + 1) = some (excO C hp.objs.size) := by heap_get
  have hnx : K.lookup (hp.objs.size + 1) = none := by
    cases e : K.lookup (hp.objs.size + 1) with
    | none => rfl
    | some o =>
      have z : hp.get? (hp.objs.size + 1) = some o := X _ _ e
      exact absurd (Nat.lt_of_succ_lt (Heap.lt_size z)) (Nat.lt_irrefl _)
  have hl : ps.length ≤ sizeLine := by
    cases hv with
    | pos => rw [sizeLine_eq]; exact (by decide : 1 ≤ 16777216)
    | kw => exact Nat.zero_le _
  refine clsCalls F.excBase_ValueError (fun Y => refsVE_contains Y (.ref L :: HandSPX.veTail) (by rfl)) (X _ _ hC) (W.looks_findIn X iC) (fun self => W.bind_fn X self tI) hl ?_
  refine initRuns (s := ⟨(hp.push (W.kdv_tup ps)).push (excO C hp.objs.size), g, dr, tk, os⟩) TL T hv htop iC (X.keeps kp) ?_ gs ?_ bs (hlim.keeps kp) hnx hget ?_ fun h' tk' dx t1 I => ?_
  · obtain ⟨o, es, ep, e, r⟩ := G
    exact ⟨o, es, ep, kp _ _ e, r⟩
  · obtain ⟨o, es, ep, e, r⟩ := B
    exact ⟨o, es, ep, kp _ _ e, r⟩
  · show A.depth + 1 < recursionLimit
    exact hroom
  · have z : hp.objs.size + 1 + 1 ≤ dx := by
      first
        | (simpa only [Heap.size_push] using I.big)
        | (have q := I.big; rw [Heap.size_push, Heap.size_push] at q; exact q)
    refine ⟨rfl, hq h' tk' (hp.objs.size + 1) dx ⟨fun b o e => I.keep b o (Nat.ne_of_lt (Nat.lt_succ_of_lt (Heap.lt_size e))) (kp b o e), Nat.le_succ _, ⟨t1, I.obj⟩, (show hp.objs.size ≤ dx by omega), I.ne, I.ns⟩⟩
end
end Lx
namespace Lx
open PySem PySem.Spec L2
/-- at e: an error of the class at C, its own dict at d -/
def errO (e C d : Addr) : HO := .ext fun h => ∃ t1 : Addr, h.get? e = some ({ cls := .ref C, dict := some d, data := .fields #[.ref t1, .none, .none, .none, .bool false, .none] } : Obj)
theorem errO_ok {P : Program} {w : World} {H : Hp} {h : Heap} {e C d t1 : Addr} (he : h.get? e = some ({ cls := .ref C, dict := some d, data := .fields #[.ref t1, .none, .none, .none, .bool false, .none] } : Obj)) : ObjOk P w H h e (errO e C d) :=
  ⟨⟨t1, he⟩, ⟨_, he⟩, fun _ _ ⟨t, q⟩ k => ⟨t, k _ q⟩⟩
theorem errO_at {P : Program} {w : World} {H : Hp} {h : Heap} {e C d : Addr} (hok : HOk P w H h) (he : H e = some (errO e C d)) : ∃ t1 : Addr, h.get? e = some ({ cls := .ref C, dict := some d, data := .fields #[.ref t1, .none, .none, .none, .bool false, .none] } : Obj) := by
  have x : ObjOk P w H h e (.ext fun h => ∃ t1 : Addr, h.get? e = some ({ cls := .ref C, dict := some d, data := .fields #[.ref t1, .none, .none, .none, .bool false, .none] } : Obj)) := hok e _ he
  exact x.1
/-- the fields of a made error -/
abbrev vf (v : V) : List (Str × V) := [(("value" : Str), v)]
theorem relO_vf {v : V} {u : Value} (r : RelV v u) (f : Str) : RelO (List.lookup f (vf v)) (if f = "value" then some u else none) := by
  by_cases hw : f = "value"
  · subst hw
    rw [if_pos rfl]
    have q : List.lookup ("value" : Str) (vf v) = some v := by simp [List.lookup]
    rw [q]
    exact r
  · rw [if_neg hw]
    have qw : (f == ("value" : Str)) = false := by simpa using hw
    have q2 : List.lookup f (vf v) = none := by simp [List.lookup, qw]
    rw [q2]
    trivial
section
variable {X : Cx} {pins : List (Addr × Obj)} {σ : St} {H : Hp} {s : Shared}
/-- two new objects laid at once -/
theorem laid2 {h' : Heap} {d e : Addr} {o1 o2 : HO} {t' : Nat} (I : Inv X pins σ H s) (k : ∀ b u, s.heap.get? b = some u → h'.get? b = some u) (hd : s.heap.objs.size ≤ d) (he : s.heap.objs.size ≤ e)
    (ok1 : ObjOk X.prog X.w (upd (upd H d o1) e o2) h' d o1) (ok2 : ObjOk X.prog X.w (upd (upd H d o1) e o2) h' e o2) : Inv X pins σ (upd (upd H d o1) e o2) { s with heap := h', toks := t' } := by
  have nd : H d = none := I.hok.fresh hd
  have ne : H e = none := I.hok.fresh he
  have old : ∀ b o, H b = some o → upd (upd H d o1) e o2 b = some o := fun b o q => by
    rw [upd_ne (ne_of_none q ne), upd_ne (ne_of_none q nd)]
    exact q
  have lt : ∀ (b : Addr) (o : Obj), s.heap.get? b = some o → b ≠ d ∧ b ≠ e := fun b o q => ⟨Nat.ne_of_lt (Nat.lt_of_lt_of_le (Heap.lt_size q) hd), Nat.ne_of_lt (Nat.lt_of_lt_of_le (Heap.lt_size q) he)⟩
  refine I.un (t' := t') ⟨fun b o q _ _ _ => k b o q, fun b o q _ _ _ => ⟨o.slots, k b o q⟩, fun b o q n _ => ?_, fun b o q _ => ⟨o, k b o q⟩, fun b xs q => old _ _ q, fun b o u q => old _ _ q, fun b ps q => ⟨#[], by rw [old _ _ q]; simp⟩⟩ fun b o q => ?_
  · rw [upd_ne (lt b o q).2, upd_ne (lt b o q).1]
    exact n
  · by_cases h1 : b = e
    · subst h1
      rw [upd_same] at q
      cases q
      exact ok2
    · rw [upd_ne h1] at q
      by_cases h2 : b = d
      · subst h2
        rw [upd_same] at q
        cases q
        exact ok1
      · rw [upd_ne h2] at q
        exact (I.hok b o q).stay (fun c v _ z => k c v z) (fun c z => old _ _ z) fun c xs z => old _ _ z
end
/-- C(e), C(value=e): a new error and its dict -/
def tErr (C : Addr) (ta : TE) : TE := fun σ H Q => ta σ H fun v H1 => ∀ d e : Addr, H1 d = none → H1 e = none → d ≠ e → Q (.ref e) (upd (upd H1 d (.xd (vf v))) e (errO e C d))
/-- raise C(e) -/
def tErrR (C : Addr) (ta : TE) : St → Hp → XK → Prop := fun σ H Q => ta σ H fun v H1 => ∀ d : Addr, H1 d = none → Q (.ref C) (some d) (upd H1 d (.xd (vf v)))
section
variable {X : Cx} {C L : Addr} {nm qual : Str} {st : Stmt} {a : Expr} {ta : TE} {p pos kpos : Pos} {k : Nat}
theorem callErr {pins : List (Addr × Obj)} {σ : St} {H : Hp} {s : Shared} {R : Value → Shared → Prop} {E : Value → Shared → Prop} (TL : LineC X.K X.mg L) (T : ErrC X.K X.prog.main.file X.mg L nm qual st C) (hr : Room k X.A) (htop : (X.prog.main.scope.names.lookup ("super" : Str)).isSome = false) (gs : X.mg "super" = none)
    {v : Value} {ps : List Value} {kw : List (Str × Value)} (hv : Hands v ps kw) (I : Inv X pins σ H s)
    (hq : ∀ h' tk e d, ErrMade s.heap h' e C d v → R (.ref e) { s with heap := h', toks := tk }) : wpAny (model X.prog X.w) X.A (call (.ref C) ps kw) R E s := by
  obtain ⟨mb, hB, hb⟩ := I.mod.blt
  refine wpAny_call (errMade TL T hv htop I.kIn (I.mod.glob.keeps I.bk) gs (hB.keeps I.bk) ((hb _ (by decide)).trans (by decide +kernel)) I.nolimit (by have := hr.dp; omega) fun h' tk e d M => hq h' tk e d M)
theorem errEP {pins : List (Addr × Obj)} {σ : St} {H : Hp} {s : Shared} {h' : Heap} {tk : Nat} {e d : Addr} {v : V} {u : Value} {Q : VK} (I : Inv X pins σ H s) (r : RelV v u) (M : ErrMade s.heap h' e C d u)
    (q : ∀ d e : Addr, H d = none → H e = none → d ≠ e → Q (.ref e) (upd (upd H d (.xd (vf v))) e (errO e C d))) : EP X pins σ Q (.ref e) { s with heap := h', toks := tk } := by
  obtain ⟨t1, ho⟩ := M.obj
  exact ⟨.ref e, _, laid2 (o1 := .xd (vf v)) (o2 := errO e C d) I M.keep M.dbig M.ebig ⟨_, M.ns, fun f => relO_vf r f⟩ (errO_ok ho), rfl, q d e (I.hok.fresh M.dbig) (I.hok.fresh M.ebig) M.ne⟩
/-- C(e) as a value -/
theorem pe_err (TL : LineC X.K X.mg L) (T : ErrC X.K X.prog.main.file X.mg L nm qual st C) (hr : Room k X.A) (htop : (X.prog.main.scope.names.lookup ("super" : Str)).isSome = false) (gs : X.mg "super" = none) (hg : Gl X nm) (he : PE X a ta) (hdb : (nm == ("__debug__" : Str)) = false := by decide)
    (hs : starEach [a] X.env = (false, eval a X.env) :: starEach [] X.env := by rfl) (hpl : (backTo pos (starEach [] X.env)).any (·.1) = false := by rfl) : PE X (.Call (.Name nm p) [a] [] pos) (tErr C ta) := by
  refine ⟨fun pins s σ H Q I h => ?_⟩
  refine wpAny_Call_Name_kw (ld_glob I hg T.gC ?_ hdb)
  refine PySem.W.callWith_K (h₀ := X.base) I.ok.mod.kin T.kp ?_ hs hpl
  rw [hs]
  show wpAny _ _ (spliced ((false, eval a X.env) :: backTo pos (starEach [] X.env))) _ _ s
  refine Calls.spliced_cons (thn (he.run pins s σ H _ I h) fun u s1 ⟨v, H1, I1, r1, q1⟩ => ?_)
  refine Calls.spliced_nil ⟨I1.kIn, ?_⟩
  show wpAny _ _ (call (.ref C) [u]) _ _ _
  exact callErr TL T hr htop gs .pos I1 fun h' tk e d M => errEP I1 r1 M q1
/-- C(value=e) as a value -/
theorem pe_errK (TL : LineC X.K X.mg L) (T : ErrC X.K X.prog.main.file X.mg L nm qual st C) (hr : Room k X.A) (htop : (X.prog.main.scope.names.lookup ("super" : Str)).isSome = false) (gs : X.mg "super" = none) (hg : Gl X nm) (he : PE X a ta) (hdb : (nm == ("__debug__" : Str)) = false := by decide)
    (hall : (backToKw pos (keywordEach [⟨some "value", a, kpos⟩] X.env)).all (·.1.isSome) = true := by rfl) (hks : (backToKw pos (keywordEach [⟨some "value", a, kpos⟩] X.env)).filterMap (·.1) = [("value" : Str)] := by rfl)
    (hpl : ((backTo pos (starEach [] X.env)).any (·.1) || (backToKw pos (keywordEach [⟨some "value", a, kpos⟩] X.env)).any (·.1.isNone)) = false := by rfl) : PE X (.Call (.Name nm p) [] [⟨some "value", a, kpos⟩] pos) (tErr C ta) := by
  refine ⟨fun pins s σ H Q I h => ?_⟩
  refine wpAny_Call_Name_kw (ld_glob I hg T.gC ?_ hdb)
  refine PySem.W.callWith_KW0 (h₀ := X.base) I.ok.mod.kin T.kp hall ?_ hpl
  refine thn ((pk_cons he pk_nil).run pos pins s σ H (fun vs H1 => match vs with | [v] => ∀ d e : Addr, H1 d = none → H1 e = none → d ≠ e → Q (.ref e) (upd (upd H1 d (.xd (vf v))) e (errO e C d)) | _ => False) I h) fun us s1 ⟨vs, H1, I1, r1, q1⟩ => ⟨I1.kIn, ?_⟩
  rw [hks]
  cases r1 with
  | nil => exact q1.elim
  | cons rv rn =>
    cases rn with
    | nil => exact callErr TL T hr htop gs .kw I1 fun h' tk e d M => errEP I1 rv M q1
    | cons _ _ => exact q1.elim
/-- raise C(e): what makes the error -/
theorem pmk_err (TL : LineC X.K X.mg L) (T : ErrC X.K X.prog.main.file X.mg L nm qual st C) (hr : Room k X.A) (htop : (X.prog.main.scope.names.lookup ("super" : Str)).isSome = false) (gs : X.mg "super" = none) (hg : Gl X nm) (he : PE X a ta) (hdb : (nm == ("__debug__" : Str)) = false := by decide)
    (hs : starEach [a] X.env = (false, eval a X.env) :: starEach [] X.env := by rfl) (hpl : (backTo pos (starEach [] X.env)).any (·.1) = false := by rfl) : PMk X (.Call (.Name nm p) [a] [] pos) (tErrR C ta) := by
  intro pins s σ H Q I h
  refine wpAny_Call_Name_kw (ld_glob I hg T.gC ?_ hdb)
  refine PySem.W.callWith_K (h₀ := X.base) I.ok.mod.kin T.kp ?_ hs hpl
  rw [hs]
  show wpAny _ _ (spliced ((false, eval a X.env) :: backTo pos (starEach [] X.env))) _ _ s
  refine Calls.spliced_cons (thn (he.run pins s σ H _ I h) fun u s1 ⟨v, H1, I1, r1, q1⟩ => ?_)
  refine Calls.spliced_nil ⟨I1.kIn, ?_⟩
  show wpAny _ _ (call (.ref C) [u]) _ _ _
  refine callErr TL T hr htop gs .pos I1 fun h' tk e d M => ?_
  obtain ⟨t1, hoe⟩ := M.obj
  have hns := M.ns
  obtain ⟨G', g1, g2⟩ := restrict h' fun b => decide (b ≠ e)
  have gk : ∀ b, b ≠ e → G'.get? b = h'.get? b := fun b hb => g1 b (decide_eq_true hb)
  have ge : G'.get? e = none := g2 e (by simp)
  have old : ∀ b o, s1.heap.get? b = some o → G'.get? b = some o := fun b o q => (gk b (Nat.ne_of_lt (Nat.lt_of_lt_of_le (Heap.lt_size q) M.ebig))).trans (M.keep b o q)
  have ob : ObjOk X.prog X.w (upd H1 d (.xd (vf v))) G' d (.xd (vf v)) := ⟨_, hns.at (fun o q => (gk d M.ne).trans q), fun f => relO_vf r1 f⟩
  have J : Inv X pins σ (upd H1 d (.xd (vf v))) { s1 with heap := G', toks := tk } := I1.laid (t' := tk) old M.dbig ob
  have r : Raises X (.ref C) := raises_own ((T.under _).trans (by rfl)) T.ty
  refine ⟨e, _, _, { s1 with heap := G', toks := tk }, _, .ref C, some d, rfl, J, fun b o q => ?_, ge, hoe, ⟨rfl, rfl⟩, rfl, rfl, ?_, rfl, I1.bare, r, q1 d (I1.hok.fresh M.dbig)⟩
  · by_cases hb : b = e
    · have q' : G'.get? b = some o := q
      rw [hb, ge] at q'
      cases q'
    · exact (gk b hb).symm.trans q
  · rw [upd_ne (Ne.symm M.ne)]
    exact I1.hok.fresh M.ebig
/-- the error's class is asked for -/
theorem kitErr (TL : LineC X.K X.mg L) (T : ErrC X.K X.prog.main.file X.mg L nm qual st C) {x : Addr} {ox : Obj} {od : Option Obj} : PySem.W.KitX X.K (.ref x) (.ref C) (fun h => PySem.W.InstAt h x ox C od) := by
  obtain ⟨cd, e1, e2, e3⟩ := T.chain
  exact PySem.W.kitx_exc (by rw [e1]; rfl) T.ga T.gg ((T.under _).trans (by rfl)) T.ca TL.sp TL.tk ((T.under _).trans (by rfl))
/-- isinstance(e, c), e a made error, c a class of the program (at D) or a built-in one -/
def rIsErr (K : PySem.W.Frag) : List V → Hp → VK → Prop := fun xs H Q => ∃ (e C d : Addr) (v : V) (c : V) (u : Value) (b : Bool), xs = [.ref e, c] ∧ H e = some (errO e C d) ∧ H d = some (.xd (vf v)) ∧ ClsV c u ∧ PySem.W.kitOne K (.ref C) u = some b ∧
  (∃ (file : Str) (mg : Str → Option Value) (L : Addr) (nm qual : Str) (st : Stmt), LineC K mg L ∧ ErrC K file mg L nm qual st C) ∧ Q (.bl b) H
theorem call_isErr : CallR X (.builtin "isinstance") (rIsErr X.K) := by
  intro pins s σ H xs us Q I r h
  obtain ⟨e, C', d, v, c, u, b, rfl, he, hd, hc, hk, ⟨file, mg, L', nm', qual', st', TL, T⟩, q⟩ := h
  obtain ⟨u1, u2, rfl, r1, r2⟩ := vals2 r
  obtain rfl : u1 = Value.ref e := r1
  have e2 := hc.eq r2
  subst e2
  obtain ⟨t1, ho⟩ := errO_at I.hok he
  obtain ⟨mA, hns, _⟩ := (show ∃ mA, s.heap.Ns1 d mA ∧ ∀ f, RelO ((vf v).lookup f) (mA f) from I.hok d _ hd)
  obtain ⟨od, hod, _⟩ := lookIn_ns hns
  obtain ⟨cd, q1, q2, q3⟩ := T.chain
  have Z : PySem.W.KitX X.K (.ref e) (.ref C') (fun h => PySem.W.InstAt h e { cls := .ref C', dict := some d, data := .fields #[.ref t1, .none, .none, .none, .bool false, .none] } C' (some od)) :=
    PySem.W.kitx_exc (by rw [q1]; rfl) T.ga T.gg ((T.under _).trans (by rfl)) T.ca TL.sp TL.tk ((T.under _).trans (by rfl))
  exact PySem.W.kia_one Z I.kIn ⟨ho, rfl, rfl, hod⟩ hk (fun z => nomatch z) fun tk => ⟨.bl b, H, I.tok tk, rfl, q⟩
/-- e.value, e a made error -/
def tErrV (K : PySem.W.Frag) (te : TE) : TE := fun σ H Q => te σ H fun x H1 => ∃ (e C d : Addr) (v : V), x = .ref e ∧ H1 e = some (errO e C d) ∧ H1 d = some (.xd (vf v)) ∧
  (∃ (file : Str) (mg : Str → Option Value) (L : Addr) (nm qual : Str) (st : Stmt), LineC K mg L ∧ ErrC K file mg L nm qual st C) ∧ Q v H1
theorem pe_errV {e : Expr} {te : TE} (he : PE X e te) (hb : attributeBase e "value" X.env (eval e X.env) = eval e X.env := by rfl) : PE X (.Attribute e "value" pos) (tErrV X.K te) := by
  refine ⟨fun pins s σ H Q I h => ?_⟩
  refine attr_of hb (thn (he.run pins s σ H _ I h) fun u s1 hh => ?_)
  obtain ⟨x, H1, I1, rx, e', C', d, v, ex, hoe, hd, ⟨file, mg, L', nm', qual', st', TL, T⟩, q⟩ := hh
  subst ex
  obtain rfl : u = Value.ref e' := rx
  obtain ⟨t1, ho⟩ := errO_at I1.hok hoe
  obtain ⟨mA, hns, hr⟩ := (show ∃ mA, s1.heap.Ns1 d mA ∧ ∀ f, RelO ((vf v).lookup f) (mA f) from I1.hok d _ hd)
  obtain ⟨od, hod, hl⟩ := lookIn_ns hns
  have l : List.lookup ("value" : Str) (vf v) = some v := by simp [List.lookup]
  obtain ⟨u, hu, ru⟩ := RelO.some_of (v := v) (o := mA "value") (by rw [← l]; exact hr "value")
  have J : PySem.W.InstAt s1.heap e' { cls := .ref C', dict := some d, data := .fields #[.ref t1, .none, .none, .none, .bool false, .none] } C' (some od) := ⟨ho, rfl, rfl, hod⟩
  obtain ⟨cd, q1, q2, q3⟩ := T.chain
  have hdict : PySem.W.hasDictIn X.K C' = true := by
    unfold PySem.W.hasDictIn
    rw [q1]
    simpa using q3
  exact HandSPX.exc_get I1.kIn J T.ga T.gg ((T.under _).trans (by rfl)) (PySem.W.findObj_own hdict T.nv rfl (by rw [hl, hu])) (handed_of ru) ⟨v, H1, I1.tok _, ru, q⟩
end
end Lx
namespace Lx
open PySem PySem.Spec L2 PyProof.Rows
/-! ### min of a tuple of ints -/
section
variable {prog : Program} {w : World} {A : Around} {E : Value → Shared → Prop} {s : Shared} {l : Addr}
variable {its : List Value} {ns : List Int} {Q : Value → Shared → Prop}
theorem min_rawT (hh : A.handled = none) (hl : s.heap.IsTuple l its.toArray) (hi : IntsAre its ns) (hne : 0 < ns.length)
    (h : ∀ h' tk M t', (∀ b o, s.heap.get? b = some o → h'.get? b = some o) → M ∈ ns → (∀ a, a ∈ ns → M ≤ a) → Q (.int M t') { s with heap := h', toks := tk }) : wpAny (model prog w) A (call (.builtin "min") [.ref l]) Q E s := by
  obtain ⟨xs, e⟩ := hi.allInts.items
  have hn : numsOf (intItems xs).toList = ns := by rw [← e]; exact hi.numsOf
  rw [nums_intItems] at hn
  subst hn
  rw [e] at hl
  have hsz : 0 < xs.size := by simpa using hne
  have hlt : l < s.heap.objs.size := by obtain ⟨_, e, _⟩ := hl; exact Heap.lt_size e
  refine call_min_walk (wpAny_pyIter_tuple hl ?_)
  refine ⟨_, _, _, _, _, _, _, rfl, Walks.tuple (A := A.in1) hh _ l (Nat.ne_of_lt hlt) (intItems xs), ⟨⟨_, Heap.get?_push_size _ rfl, rfl, rfl⟩, hl.at fun o e => Heap.get?_push_of_some _ e⟩, fun b hb => ?_, by simpa [intItems] using hsz, CmpOf.ints_lt (numAt xs) (fun _ _ => intItems_at), fun v h' tk hP hk => ?_⟩
  · show b < (s.heap.push _).objs.size
    rw [Heap.size_push]
    rcases List.mem_cons.mp hb with rfl | hb
    · exact Nat.lt_succ_self _
    · rcases List.mem_cons.mp hb with rfl | hb
      · exact Nat.lt_succ_of_lt hlt
      · cases hb
  · obtain ⟨t, rfl⟩ := intItems_at hP
    obtain ⟨h1, h2⟩ := argBest_lt (numAt xs) (xs.size - 1)
    have hz : (intItems xs).size = xs.size := by simp [intItems]
    refine h h' tk _ t (fun b o e => hk b o (fun hm => Nat.lt_irrefl _ ((List.mem_singleton.mp hm) ▸ Heap.lt_size e)) (Heap.get?_push_of_some _ e)) ?_ fun a ha => ?_
    · rw [numAt_eq]; exact PySem.getD_mem (by rw [List.length_map, Array.length_toList, hz]; omega)
    · obtain ⟨j, hj, rfl⟩ := mem_getD ha
      rw [List.length_map, Array.length_toList] at hj
      rw [← numAt_eq, hz]; exact h2 j (by omega)
end
def rMinT (K : PySem.W.Frag) : List V → Hp → VK → Prop := fun vs H Q => ∃ (a : Addr) (ns : List Int), vs = [V.ref a] ∧ SqT K H a (ns.map V.int) ∧ 0 < ns.length ∧ ∀ m, m ∈ ns → (∀ y, y ∈ ns → m ≤ y) → Q (.int m) H
theorem call_minT {X : Cx} (hc : X.calm = true) : CallR X (.builtin "min") (rMinT X.K) := by
  intro pins s σ H vs us Q I r h
  obtain ⟨a, ns, rfl, hs, hne, q⟩ := h
  obtain ⟨its, rv, hl, _⟩ := I.tuple hs
  rw [Vals.ref1 r]
  exact min_rawT (I.ok.hd hc) (by obtain ⟨o, h1, h2, n, h3⟩ := hl; exact ⟨o, h1, h2, n, h3⟩) rv.ints hne fun h' tk m t' hk h1 h2 => ⟨.int _, H, I.kept hk, ⟨_, rfl⟩, q m h1 h2⟩
/-! ### get of a written dict -/
def tKGet (K : PySem.W.Frag) (w : World) (td ty : TE) : TE := fun σ H Q => td σ H fun x H1 => ∃ a es n, x = .ref a ∧ KDict K w a es n ∧ ty σ H1 fun y H2 => ∃ (z : Str) (r : Option Value) (v : V), y = .str z ∧ PySem.W.nsIn K a z = some r ∧ RelV v (r.getD .none) ∧ Q v H2
theorem pe_kget {X : Cx} {o e : Expr} {apos cpos : Pos} {td ty : TE} (ho : PE X o td) (he : PE X e ty) (m : M1 X o "get" apos e cpos) : PE X (.Call (.Attribute o "get" apos) [e] [] cpos) (tKGet X.K X.w td ty) := by
  refine ⟨fun pins s σ H Q I h => ?_⟩
  refine wpAny_Call_method m.base m.few m.line PySem.F.plainAttrs_dict PySem.F.slot_dict_get PySem.F.type_dict_get (thn (ho.run pins s σ H _ I h) fun u s1 ⟨x, H1, I1, rx, a, es, n, ex, D, q1⟩ => ?_)
  subst ex
  obtain rfl : u = Value.ref a := rx
  have hm1 := PySem.W.mapOf_K (prog := X.prog) (w := X.w) I1.kIn D.at_ D.lit
  refine ⟨hm1.typeIs, fun b q => ?_, ?_⟩
  · cases q
    exact ⟨_, I1.kIn _ _ D.at_, rfl⟩
  rw [m.trees]
  refine Calls.callWith_builtin rfl (Calls.evalArgs_plain (Calls.spliced_cons (thn (he.run pins s1 σ H1 _ I1 q1) fun iv s2 ⟨y, H2, I2, ry, z, r, v, ey, e, rv, q2⟩ => Calls.spliced_nil ?_)))
  subst ey
  obtain ⟨t, rfl⟩ := ry
  have hm2 := PySem.W.mapOf_K (prog := X.prog) (w := X.w) I2.kIn D.at_ D.lit
  refine call_meetsIn PySem.F.slot_dict_get hm2.typeIs PySem.F.entry_dict_get (PySem.F.args_dict_get_2 _ _) (meets_dict_get (strKind X.prog X.w) a (strKind_is X.prog X.w z t) D.low) ⟨_, hm2, ?_⟩
  rw [PySem.W.find_K D.at_ e]
  exact ⟨v, H2, I2.tok _, rv, q2⟩
end Lx
namespace Lx
open PySem PySem.Spec L2
/-! ### enumerate(text) -/
/-- each sign of x with its place, in a new pair -/
def Itx (x : Str) : It :=
  ⟨fun i _ => i < x.cps.size, fun i H v H' => ∃ T c, v = .ref T ∧ H T = none ∧ H' = upd H T (.tup [.int (i : Nat), .str ⟨#[c]⟩]) ∧ x.cps[i]? = some c, fun i _ => x.cps.size ≤ i⟩
theorem turn_enumS {P : Program} {w : World} {K : PySem.W.Frag} {elts : List Expr} {kk : Nat} {tpos : Pos} (x : Str) (t : Tok) (e it : Addr) :
    Turn P w K (.Tuple elts kk tpos) (Itx x) [e, it] e (fun i h => (∃ old, IsEnum h e it ((i : Nat) : Int) old) ∧ h.IsStrIter it (strIterType x) x t i ∧ e ≠ it ∧ i ≤ x.cps.size) where
  mem := by simp
  obj := fun i h st b hb => by
    obtain ⟨⟨old, he⟩, ⟨o, ho, hc, hd⟩, _, _⟩ := st
    have e' : b = e ∨ b = it := by simpa using hb
    rcases e' with z | z
    · rw [z]; exact ⟨_, he, fun v q => nomatch q⟩
    · rw [z]; exact ⟨o, ho, fun v q => by rw [hd] at q; cases q⟩
  keep := fun i h h' st k => by
    obtain ⟨⟨old, he⟩, ⟨o, ho, r⟩, hne, hle⟩ := st
    exact ⟨⟨old, k e (by simp) _ he⟩, ⟨o, k it (by simp) o ho, r⟩, hne, hle⟩
  item := by
    intro X hP hw hK hc i pins s σ H E I hf st hg
    subst hP hw hK
    obtain ⟨⟨old, he⟩, hit, hne, hle⟩ := st
    have hlt : i < x.cps.size := hg
    have hel : e < s.heap.objs.size := Heap.lt_size he
    have hil : it < s.heap.objs.size := by obtain ⟨_, q, _⟩ := hit; exact Heap.lt_size q
    refine wpAny_pyNext_enum_itemD (Draws.text (A := X.A.in1) (I.ok.hd hc) it x t) he hit hlt hne (by simpa using hne) fun u h' tk hP ho hit' hT hsz hk => ?_
    obtain ⟨c, tc, hcx, rfl⟩ := hP
    refine ⟨_, rfl, wpAny_letOwnedTupleGo_enum (s := { s with heap := h', toks := tk + 1 }) ho fun h'' he' sb => ?_⟩
    have hT2 : h''.get? s.heap.objs.size = some { cls := .type "tuple", data := .seq #[.int i tk, .str ⟨#[c]⟩ tc] } := (sb.2 _ (Nat.ne_of_gt hel)).trans hT
    have new : ObjOk X.prog X.w (upd H s.heap.objs.size (.tup [.int (i : Nat), .str ⟨#[c]⟩])) h'' s.heap.objs.size (.tup [.int (i : Nat), .str ⟨#[c]⟩]) :=
      ⟨by show 2 ≤ sizeLine; decide, [.int i tk, .str ⟨#[c]⟩ tc], .cons ⟨_, rfl⟩ (.cons ⟨_, rfl⟩ .nil), ⟨_, hT2, rfl, _, rfl⟩⟩
    have I1 : Inv X pins σ (upd H s.heap.objs.size (.tup [.int (i : Nat), .str ⟨#[c]⟩])) { s with heap := h'', toks := tk + 1 } :=
      I.turnedNew (ch := [e, it]) (fun b ob hb q => (sb.2 b (fun z => hb (by simp [z]))).trans (hk b ob (fun z => hb (by simp [z])) (fun z => hb (by simp [z])) q)) hf (Nat.le_refl _) new
    refine ⟨.ref s.heap.objs.size, _, I1, rfl, ⟨_, c, rfl, I.hok.fresh (Nat.le_refl _), rfl, hcx⟩, ⟨⟨.str ⟨#[c]⟩ tc, ?_⟩, ?_, hne, hlt⟩, fun b hb => ?_⟩
    · have e1 : ((i + 1 : Nat) : Int) = (i : Int) + 1 := by omega
      rw [e1]; exact he'
    · obtain ⟨o, ho2, r⟩ := hit'
      exact ⟨o, (sb.2 it (Ne.symm hne)).trans ho2, r⟩
    · have hb' : b < s.heap.objs.size := by
        have e' : b = e ∨ b = it := by simpa using hb
        rcases e' with z | z
        · rw [z]; exact hel
        · rw [z]; exact hil
      rw [upd_ne (Nat.ne_of_lt hb')]
      exact (hf b hb).1
  done := by
    intro X hP hw hK hc i pins s σ H E I hf st hg
    subst hP hw hK
    obtain ⟨⟨old, he⟩, hit, hne, hle⟩ := st
    obtain ⟨f0, f1, f2, f3, f4, f5⟩ := hf it (by simp)
    have e1 : i = x.cps.size := Nat.le_antisymm hle hg
    subst e1
    exact wpAny_pyNext_enum_endD (Draws.text (A := X.A.in1) (I.ok.hd hc) it x t) he hit fun h' eb => ⟨rfl, I.turned (t' := s.toks) (fun b o hb q => eb b o hb q) f0 f1 f3 f4 f5⟩
  self := fun A i s Q E st h => let ⟨⟨_, he⟩, _⟩ := st; PySem.wpAny_pyIter_enum he h
def iEnumS (ta : TA) : TI := fun σ H R => ta σ H fun vs H1 => ∃ x, vs = [.str x] ∧ R (Itx x) H1
theorem pi_enumS {X : Cx} {e : Expr} {ta : TA} {p pos tpos : Pos} {elts : List Expr} {kk : Nat} (hg : Gl X "enumerate") (hm : X.mg "enumerate" = none) (ha : PA X [e] ta) (hs : starEach [e] X.env = [(false, eval e X.env)] := by rfl) :
    PI X (.Tuple elts kk tpos) (.Call (.Name "enumerate" p) [e] [] pos) (iEnumS ta) := by
  refine ⟨fun pins s σ H R I h => ?_⟩
  refine PyProof.Rows.Call_ (ld_blt I hg hm PyProof.Rows.boot_enumerate (PyProof.Rows.callWith_type1 (thn (ha.run pos pins s σ H _ I h) fun us s1 ⟨vs, H1, I1, r1, q1⟩ => ?_) hs rfl))
  obtain ⟨x, ex, q⟩ := q1
  subst ex
  cases r1 with
  | cons r rr =>
    cases rr
    obtain ⟨t, rfl⟩ := r
    refine call_enumerate_str fun h' he hit hsz hk => PySem.wpAny_pyIter_enum he ?_
    have I2 : Inv X pins σ H1 { s1 with heap := h' } := I1.kept (t' := s1.toks) hk
    refine ⟨s1.heap.objs.size + 1, [s1.heap.objs.size + 1, s1.heap.objs.size], _, _, H1, rfl, I2, turn_enumS x t (s1.heap.objs.size + 1) s1.heap.objs.size, ⟨⟨.none, he⟩, hit, Nat.succ_ne_self _, Nat.zero_le _⟩, fun b hb => ?_, q⟩
    have e' : b = s1.heap.objs.size + 1 ∨ b = s1.heap.objs.size := by simpa using hb
    have hle : s1.heap.objs.size ≤ b := by
      rcases e' with z | z
      · rw [z]; exact Nat.le_add_right _ _
      · rw [z]; exact Nat.le_refl _
    exact I1.fpOk hle (I1.hok.fresh hle)
theorem walk_enumS {z : Str} : Walk (Itx z) z.cps.size (fun _ => True) (YPair (fun i => some (.int (i : Nat))) (fun i => z.cps[i]?.map fun c => V.str ⟨#[c]⟩)) :=
  ⟨fun _ _ hi _ => hi, fun _ _ => Nat.le_refl _, fun i H v H' _ _ y => by
    obtain ⟨T, c, h1, h2, h3, h4⟩ := y
    exact ⟨T, .int (i : Nat), .str ⟨#[c]⟩, h1, h2, h3, rfl, by simp [h4]⟩⟩
end Lx
namespace Lx
open PySem PySem.Spec L2
/-! ### sizes of numbers -/
def Sm (n : Nat) (x : Int) : Prop := x.natAbs < 2 ^ n
theorem Sm.mono {n m : Nat} {x : Int} (h : Sm n x) (k : n ≤ m) : Sm m x := Nat.lt_of_lt_of_le h (Nat.pow_le_pow_right (by decide) k)
theorem Sm.add {n : Nat} {x y : Int} (h : Sm n x) (k : Sm n y) : Sm (n + 1) (x + y) := by
  unfold Sm at *
  have := Nat.pow_succ 2 n
  omega
theorem Sm.mul {n m : Nat} {x y : Int} (h : Sm n x) (k : Sm m y) : Sm (n + m) (x * y) := by
  unfold Sm at *
  rw [Int.natAbs_mul, Nat.pow_add]
  exact Nat.mul_lt_mul'' h k
theorem Sm.of_le {n : Nat} {x y : Int} (h0 : 0 ≤ x) (h1 : x ≤ y) (k : Sm n y) : Sm n x := by
  unfold Sm at *
  omega
/-! ### forms -/
inductive Fm
  | keep (b a : Int)
  | lf (b a k c : Int)
  | cr (b a k : Int)
namespace Fm
def vs : Fm → List V
  | keep b a => [.str "keep", .int b, .int a]
  | lf b a k c => [.str "lf", .int b, .int a, .int k, .int c]
  | cr b a k => [.str "cr", .int b, .int a, .int k]
def nm : Fm → Str
  | keep _ _ => "keep"
  | lf _ _ _ _ => "lf"
  | cr _ _ _ => "cr"
def b : Fm → Int
  | keep b _ => b
  | lf b _ _ _ => b
  | cr b _ _ => b
def a : Fm → Int
  | keep _ a => a
  | lf _ a _ _ => a
  | cr _ a _ => a
/-- the number of ^ in front of a break with j of them -/
def after (f : Fm) (j : Int) : Int := (if j - f.b > 0 then j - f.b else 0) + f.a
def ahead (b' a' : Int) : Fm → Fm
  | keep _ _ => keep b' a'
  | lf _ _ k c => lf b' a' k c
  | cr _ _ k => cr b' a' k
def both : Fm → Fm → Fm
  | keep b a, g => ahead (b + (if g.b - a > 0 then g.b - a else 0)) ((if a - g.b > 0 then a - g.b else 0) + g.a) g
  | lf b a k c, keep b' a' => lf b a k (after (keep b' a') c)
  | cr b a k, keep _ _ => cr b a k
  | lf b a k c, lf b' a' k' c' => lf b a (k * (after (lf b' a' k' c') c + 1) * k') c'
  | lf b a k c, cr b' a' k' => cr b a (k * (after (cr b' a' k') c + 1) * k')
  | cr b a k, lf _ _ k' c' => lf b a (k * 1 * k') c'
  | cr b a k, cr _ _ k' => cr b a (k * 1 * k')
/-- a form, its numbers below 2 ^ n -/
def Ok (n : Nat) : Fm → Prop
  | keep b a => 0 ≤ b ∧ 0 ≤ a ∧ Sm n b ∧ Sm n a
  | lf b a k c => 0 ≤ b ∧ 0 ≤ a ∧ 0 < k ∧ 0 ≤ c ∧ Sm n b ∧ Sm n a ∧ Sm n k ∧ Sm n c
  | cr b a k => 0 ≤ b ∧ 0 ≤ a ∧ 0 < k ∧ Sm n b ∧ Sm n a ∧ Sm n k
def nums : Fm → List Int
  | keep b a => [b, a]
  | lf b a k c => [b, a, k, c]
  | cr b a k => [b, a, k]
theorem Ok.mono {n m : Nat} (h : n ≤ m) : ∀ {f : Fm}, Ok n f → Ok m f
  | keep _ _, ⟨h1, h2, h3, h4⟩ => ⟨h1, h2, h3.mono h, h4.mono h⟩
  | lf _ _ _ _, ⟨h1, h2, h3, h4, h5, h6, h7, h8⟩ => ⟨h1, h2, h3, h4, h5.mono h, h6.mono h, h7.mono h, h8.mono h⟩
  | cr _ _ _, ⟨h1, h2, h3, h4, h5, h6⟩ => ⟨h1, h2, h3, h4.mono h, h5.mono h, h6.mono h⟩
theorem Ok.b0 {n : Nat} : ∀ {f : Fm}, Ok n f → 0 ≤ f.b ∧ Sm n f.b
  | keep _ _, h => ⟨h.1, h.2.2.1⟩
  | lf _ _ _ _, h => ⟨h.1, h.2.2.2.2.1⟩
  | cr _ _ _, h => ⟨h.1, h.2.2.2.1⟩
theorem Ok.a0 {n : Nat} : ∀ {f : Fm}, Ok n f → 0 ≤ f.a ∧ Sm n f.a
  | keep _ _, h => ⟨h.2.1, h.2.2.2⟩
  | lf _ _ _ _, h => ⟨h.2.1, h.2.2.2.2.2.1⟩
  | cr _ _ _, h => ⟨h.2.1, h.2.2.2.2.1⟩
theorem after_ok {n : Nat} {f : Fm} (h : Ok n f) {j : Int} (h0 : 0 ≤ j) (hj : Sm n j) : 0 ≤ after f j ∧ Sm (n + 1) (after f j) := by
  have hb := h.b0
  have ha := h.a0
  unfold after
  unfold Sm at *
  have := Nat.pow_succ 2 n
  split <;> omega
theorem vs1 (f : Fm) : f.vs[1]? = some (.int f.b) := by cases f <;> rfl
theorem vs2 (f : Fm) : f.vs[2]? = some (.int f.a) := by cases f <;> rfl
theorem vs0 (f : Fm) : f.vs[0]? = some (.str f.nm) := by cases f <;> rfl
end Fm
def FmAt (K : PySem.W.Frag) (H : Hp) (x : V) (f : Fm) : Prop := ∃ p, x = .ref p ∧ SqT K H p f.vs
theorem sameT {K : PySem.W.Frag} {H H' : Hp} {a : Addr} {xs : List V} (e : Same H H') (h : SqT K H a xs) : SqT K H' a xs := by
  rcases h with (h | ⟨o, h⟩) | h
  · exact .inl (.inl (e _ _ h))
  · exact .inl (.inr ⟨o, e _ _ h⟩)
  · exact .inr h
theorem FmAt.same {K : PySem.W.Frag} {H H' : Hp} {x : V} {f : Fm} (e : Same H H') : FmAt K H x f → FmAt K H' x f := fun ⟨p, h1, h2⟩ => ⟨p, h1, sameT e h2⟩
/-! ### runs -/
/-- a group: a tuple that is tracked -/
def PrAt (H : Hp) (v : V) (x : Int × Int) : Prop := ∃ p, v = .ref p ∧ H p = some (.tup [.int x.1, .int x.2])
inductive Prs (K : PySem.W.Frag) (H : Hp) : List V → List (Int × Int) → Prop
  | nil : Prs K H [] []
  | cons {v : V} {vs : List V} {x : Int × Int} {xs : List (Int × Int)} : PrAt H v x → Prs K H vs xs → Prs K H (v :: vs) (x :: xs)
theorem Prs.same {K : PySem.W.Frag} {H H' : Hp} (e : Same H H') : ∀ {vs : List V} {gs : List (Int × Int)}, Prs K H vs gs → Prs K H' vs gs
  | _, _, .nil => .nil
  | _, _, .cons ⟨p, h1, h2⟩ t => .cons ⟨p, h1, e _ _ h2⟩ (t.same e)
theorem Prs.len {K : PySem.W.Frag} {H : Hp} : ∀ {vs : List V} {gs : List (Int × Int)}, Prs K H vs gs → vs.length = gs.length
  | _, _, .nil => rfl
  | _, _, .cons _ t => by rw [List.length_cons, List.length_cons, t.len]
theorem Prs.get {K : PySem.W.Frag} {H : Hp} : ∀ {vs : List V} {gs : List (Int × Int)}, Prs K H vs gs → ∀ {i : Nat} {v : V}, vs[i]? = some v → ∃ x, gs[i]? = some x ∧ PrAt H v x
  | _, _, .nil, i, v, h => by simp at h
  | _, _, .cons h1 t, 0, v, h => by
    have e := Option.some.inj h
    subst e
    exact ⟨_, rfl, h1⟩
  | _, _, .cons h1 t, i + 1, v, h => t.get (i := i) h
theorem Prs.append {K : PySem.W.Frag} {H : Hp} : ∀ {vs ws : List V} {gs hs : List (Int × Int)}, Prs K H vs gs → Prs K H ws hs → Prs K H (vs ++ ws) (gs ++ hs)
  | _, _, _, _, .nil, h => h
  | _, _, _, _, .cons a t, h => .cons a (t.append h)
def GsAt (K : PySem.W.Frag) (H : Hp) (l : Addr) (gs : List (Int × Int)) : Prop := ∃ xs, SqL K H l xs ∧ Prs K H xs gs
def RnAt (K : PySem.W.Frag) (H : Hp) (x : V) (l : Addr) (r : List (Int × Int) × Int) : Prop := ∃ p, x = .ref p ∧ SqT K H p [.ref l, .int r.2] ∧ GsAt K H l r.1
theorem GsAt.same {K : PySem.W.Frag} {H H' : Hp} {l : Addr} {gs : List (Int × Int)} (e : Same H H') : GsAt K H l gs → GsAt K H' l gs := fun ⟨xs, h1, h2⟩ => ⟨xs, e.seq h1, h2.same e⟩
theorem RnAt.same {K : PySem.W.Frag} {H H' : Hp} {x : V} {l : Addr} {r : List (Int × Int) × Int} (e : Same H H') : RnAt K H x l r → RnAt K H' x l r := fun ⟨p, h1, h2, h3⟩ => ⟨p, h1, sameT e h2, h3.same e⟩
/-- groups as the document wants them, numbers below 2 ^ n -/
def GsOk (n : Nat) (gs : List (Int × Int)) : Prop := ∀ (i : Nat) (x : Int × Int), gs[i]? = some x → 1 ≤ x.1 ∧ 0 ≤ x.2 ∧ Sm n x.1 ∧ Sm n x.2 ∧ ∀ y : Int × Int, gs[i + 1]? = some y → y.2 ≠ x.2
structure RnOk (n : Nat) (r : List (Int × Int) × Int) : Prop where
  gs : GsOk n r.1
  rest : 0 ≤ r.2 ∧ Sm n r.2
  len : r.1.length ≤ 1000
def addTo (acc : List (Int × Int)) (x : Int × Int) : List (Int × Int) := match acc.getLast? with
  | some y => if y.2 = x.2 then acc.dropLast ++ [(y.1 + x.1, x.2)] else acc ++ [x]
  | none => acc ++ [x]
def merged (gs : List (Int × Int)) : List (Int × Int) := gs.foldl addTo []
def moved (f : Fm) (gs : List (Int × Int)) : List (Int × Int) := gs.map fun x => (x.1, f.after x.2)
def total (gs : List (Int × Int)) : Int := (gs.map fun x => x.1 * (x.2 + 1)).sum
def units (r : List (Int × Int) × Int) (f : Fm) : Int := total (moved f r.1) + r.2
def runAfter (r : List (Int × Int) × Int) : Fm → List (Int × Int) × Int
  | .keep b a => (merged (moved (.keep b a) r.1), r.2)
  | .lf b a k c => if k * units r (.lf b a k c) = 0 then ([], 0) else ([(k * units r (.lf b a k c), c)], 0)
  | .cr b a k => ([], k * units r (.cr b a k))
end Lx
namespace Lw
open PySem PySem.Spec L2 Lx
def topS (i : Nat) : Stmt := PySem.Challenge.pw_lineends_k32_staying_and_tracing_errors.main.body.getD i (.Pass ⟨0, 0, 0, 0⟩)
abbrev sChkRun : Stmt := topS 12
abbrev sChkForm : Stmt := topS 13
abbrev sIsForm : Stmt := topS 14
abbrev sBoth : Stmt := topS 17
abbrev sAftKeep : Stmt := topS 18
abbrev sBefKeep : Stmt := topS 19
abbrev sOne : Stmt := topS 20
abbrev sSigns : Stmt := topS 21
abbrev sRunAft : Stmt := topS 22
abbrev sRou : Stmt := topS 23
abbrev sUnits : Stmt := topS 24
abbrev sUog : Stmt := topS 25
abbrev sMerged : Stmt := topS 26
abbrev sTrace : Stmt := topS 28
abbrev sOffspring : Stmt := topS 29
abbrev sCheckPlace : Stmt := topS 30
abbrev sCharactersOfUnit : Stmt := topS 31
abbrev sLengthsAfter : Stmt := topS 32
abbrev sLocated : Stmt := topS 33
abbrev sStartOf : Stmt := topS 34
abbrev sReturnsLeft : Stmt := topS 35
abbrev sOriginInGroup : Stmt := topS 36
abbrev sUnitsInGroup : Stmt := topS 37
abbrev sStays : Stmt := topS 39
abbrev sIdem : Stmt := topS 40
abbrev sUndoing : Stmt := topS 41
abbrev sLBag : Stmt := topS 43
abbrev sLDraw : Stmt := topS 44
abbrev sLChain : Stmt := topS 45
abbrev sLReduced : Stmt := topS 46
abbrev sLRun : Stmt := topS 47
abbrev sLWanted : Stmt := topS 48
abbrev sLAnyWanted : Stmt := topS 49
abbrev sLUnits : Stmt := topS 50
abbrev sLAfter : Stmt := topS 51
abbrev sLSpoiltRun : Stmt := topS 52
abbrev sLRunFault : Stmt := topS 53
abbrev sLSpoiltForm : Stmt := topS 54
abbrev sLIsForm : Stmt := topS 55
abbrev sLKind : Stmt := topS 56
abbrev sLCaught : Stmt := topS 57
abbrev sLaw : Stmt := topS 58
end Lw
namespace Lx
open PySem PySem.Spec L2
/-! ### one form after another -/
theorem addTo_none (x : Int × Int) : addTo [] x = [x] := rfl
theorem addTo_end (a : List (Int × Int)) (y x : Int × Int) : addTo (a ++ [y]) x = if y.2 = x.2 then a ++ [(y.1 + x.1, x.2)] else a ++ [y] ++ [x] := by
  unfold addTo
  rw [List.getLast?_concat]
  simp
theorem ends {α : Type} : ∀ l : List α, l = [] ∨ ∃ a x, l = a ++ [x]
  | [] => .inl rfl
  | x :: l => by
    rcases ends l with rfl | ⟨a, y, rfl⟩
    · exact .inr ⟨[], x, rfl⟩
    · exact .inr ⟨x :: a, y, rfl⟩
theorem merged_snoc (xs : List (Int × Int)) (x : Int × Int) : merged (xs ++ [x]) = addTo (merged xs) x := by
  unfold merged
  rw [List.foldl_append]
  rfl
theorem addTo_addTo (a : List (Int × Int)) (m m' j : Int) : addTo (addTo a (m, j)) (m', j) = addTo a (m + m', j) := by
  rcases ends a with rfl | ⟨b, z, rfl⟩
  · show addTo ([] ++ [(m, j)]) (m', j) = [(m + m', j)]
    rw [addTo_end, if_pos rfl]
    rfl
  · rw [addTo_end, addTo_end]
    by_cases e : z.2 = j
    · rw [if_pos e, if_pos e, addTo_end, if_pos rfl, Int.add_assoc]
    · rw [if_neg e, if_neg e, addTo_end, if_pos rfl]
def on (h : Int → Int) (gs : List (Int × Int)) : List (Int × Int) := gs.map fun x => (x.1, h x.2)
theorem on_snoc (h : Int → Int) (a : List (Int × Int)) (x : Int × Int) : on h (a ++ [x]) = on h a ++ [(x.1, h x.2)] := by
  unfold on
  rw [List.map_append]
  rfl
theorem merged_on_addTo (h : Int → Int) (a : List (Int × Int)) (x : Int × Int) : merged (on h (addTo a x)) = addTo (merged (on h a)) (x.1, h x.2) := by
  rcases ends a with rfl | ⟨b, y, rfl⟩
  · rfl
  · rw [addTo_end]
    by_cases e : y.2 = x.2
    · rw [if_pos e, on_snoc, merged_snoc, on_snoc, merged_snoc, ← e, addTo_addTo]
    · rw [if_neg e, on_snoc, merged_snoc]
theorem merged_on (h : Int → Int) (n : Nat) : ∀ xs : List (Int × Int), xs.length = n → merged (on h (merged xs)) = merged (on h xs) := by
  induction n with
  | zero =>
    intro xs hx
    rw [List.eq_nil_of_length_eq_zero hx]
    rfl
  | succ n ih =>
    intro xs hx
    rcases ends xs with rfl | ⟨a, x, rfl⟩
    · rfl
    · rw [merged_snoc, merged_on_addTo, ih a (by simpa using hx), on_snoc, merged_snoc]
theorem total_snoc (a : List (Int × Int)) (x : Int × Int) : total (a ++ [x]) = total a + x.1 * (x.2 + 1) := by
  unfold total
  rw [List.map_append, List.sum_append]
  simp
theorem total_addTo (h : Int → Int) (a : List (Int × Int)) (x : Int × Int) : total (on h (addTo a x)) = total (on h a) + x.1 * (h x.2 + 1) := by
  rcases ends a with rfl | ⟨b, y, rfl⟩
  · show total ([] ++ [(x.1, h x.2)]) = total [] + _
    rw [total_snoc]
  · rw [addTo_end]
    by_cases e : y.2 = x.2
    · rw [if_pos e, on_snoc, total_snoc, on_snoc, total_snoc, e, Int.add_mul, Int.add_assoc]
    · rw [if_neg e, on_snoc, total_snoc]
theorem total_on (h : Int → Int) (n : Nat) : ∀ xs : List (Int × Int), xs.length = n → total (on h (merged xs)) = total (on h xs) := by
  induction n with
  | zero =>
    intro xs hx
    rw [List.eq_nil_of_length_eq_zero hx]
    rfl
  | succ n ih =>
    intro xs hx
    rcases ends xs with rfl | ⟨a, x, rfl⟩
    · rfl
    · rw [merged_snoc, total_addTo, ih a (by simpa using hx), on_snoc, total_snoc]
theorem moved_on (f : Fm) (gs : List (Int × Int)) : moved f gs = on f.after gs := rfl
theorem on_on (h h' : Int → Int) (gs : List (Int × Int)) : on h' (on h gs) = on (fun j => h' (h j)) gs := by
  unfold on
  rw [List.map_map]
  rfl
theorem posI (x : Int) : 0 ≤ (if x > 0 then x else 0) ∧ ((if x > 0 then x else 0) = x ∨ ((if x > 0 then x else 0) = 0 ∧ x ≤ 0)) := by
  by_cases h : x > 0
  · rw [if_pos h]; omega
  · rw [if_neg h]; omega
theorem after_both (b a : Int) (g : Fm) (j : Int) : g.after ((Fm.keep b a).after j) = ((Fm.keep b a).both g).after j := by
  have e : ∀ b' a' : Int, (if (if j - b > 0 then j - b else 0) + a - b' > 0 then (if j - b > 0 then j - b else 0) + a - b' else 0) + a' =
      (if j - (b + (if b' - a > 0 then b' - a else 0)) > 0 then j - (b + (if b' - a > 0 then b' - a else 0)) else 0) + ((if a - b' > 0 then a - b' else 0) + a') := by
    intro b' a'
    have p1 := posI (j - b)
    have p2 := posI (b' - a)
    have p3 := posI (a - b')
    generalize (if j - b > 0 then j - b else 0) = A at *
    generalize (if b' - a > 0 then b' - a else 0) = B at *
    generalize (if a - b' > 0 then a - b' else 0) = C at *
    have p4 := posI (A + a - b')
    have p5 := posI (j - (b + B))
    generalize (if A + a - b' > 0 then A + a - b' else 0) = D at *
    generalize (if j - (b + B) > 0 then j - (b + B) else 0) = E at *
    omega
  cases g with
  | keep b' a' => exact e b' a'
  | lf b' a' k c => exact e b' a'
  | cr b' a' k => exact e b' a'
theorem units_both (r : List (Int × Int) × Int) (b a : Int) (g : Fm) : units (runAfter r (.keep b a)) g = units r ((Fm.keep b a).both g) := by
  show total (moved g (merged (moved (.keep b a) r.1))) + r.2 = total (moved _ r.1) + r.2
  rw [moved_on, total_on _ _ _ rfl, moved_on, on_on, moved_on]
  have e : (fun j => g.after ((Fm.keep b a).after j)) = ((Fm.keep b a).both g).after := funext fun j => after_both b a g j
  rw [e]
theorem units_one (n c : Int) (g : Fm) : units ([(n, c)], 0) g = n * (g.after c + 1) := by
  show total ([] ++ [(n, g.after c)]) + 0 = _
  rw [total_snoc]
  show 0 + n * (g.after c + 1) + 0 = _
  omega
theorem units_none (n : Int) (g : Fm) : units ([], n) g = n := by
  show (0 : Int) + n = n
  omega
theorem runAfter_both (r : List (Int × Int) × Int) (f g : Fm) : runAfter (runAfter r f) g = runAfter r (f.both g) := by
  cases f with
  | keep b a =>
    have hu := units_both r b a g
    cases g with
    | keep b' a' =>
      show (merged (moved (.keep b' a') (merged (moved (.keep b a) r.1))), r.2) = (merged (moved _ r.1), r.2)
      rw [moved_on, merged_on _ _ _ rfl, moved_on, on_on, moved_on]
      have e : (fun j => (Fm.keep b' a').after ((Fm.keep b a).after j)) = ((Fm.keep b a).both (.keep b' a')).after := funext fun j => after_both b a _ j
      rw [e]
      rfl
    | lf b' a' k' c' =>
      show (if k' * units (runAfter r (.keep b a)) (.lf b' a' k' c') = 0 then (([] : List (Int × Int)), (0 : Int)) else ([(k' * units (runAfter r (.keep b a)) (.lf b' a' k' c'), c')], 0)) = _
      rw [hu]
      rfl
    | cr b' a' k' =>
      show (([] : List (Int × Int)), k' * units (runAfter r (.keep b a)) (.cr b' a' k')) = _
      rw [hu]
      rfl
  | lf b a k c =>
    by_cases z : k * units r (.lf b a k c) = 0
    · rw [show runAfter r (.lf b a k c) = ([], 0) from if_pos z]
      cases g with
      | keep b' a' =>
        show (([] : List (Int × Int)), (0 : Int)) = if k * units r (.lf b a k c) = 0 then ([], 0) else _
        rw [if_pos z]
      | lf b' a' k' c' =>
        have e : k * ((Fm.lf b' a' k' c').after c + 1) * k' * units r (.lf b a k c) = 0 := by
          rw [show k * ((Fm.lf b' a' k' c').after c + 1) * k' * units r (.lf b a k c) = ((Fm.lf b' a' k' c').after c + 1) * k' * (k * units r (.lf b a k c)) by
            simp only [Int.mul_assoc, Int.mul_comm, Int.mul_left_comm], z, Int.mul_zero]
        show (if k' * units ([], 0) (.lf b' a' k' c') = 0 then (([] : List (Int × Int)), (0 : Int)) else _) = if k * ((Fm.lf b' a' k' c').after c + 1) * k' * units r (.lf b a k c) = 0 then ([], 0) else _
        rw [units_none, Int.mul_zero, if_pos rfl, if_pos e]
      | cr b' a' k' =>
        have e : k * ((Fm.cr b' a' k').after c + 1) * k' * units r (.lf b a k c) = 0 := by
          rw [show k * ((Fm.cr b' a' k').after c + 1) * k' * units r (.lf b a k c) = ((Fm.cr b' a' k').after c + 1) * k' * (k * units r (.lf b a k c)) by
            simp only [Int.mul_assoc, Int.mul_comm, Int.mul_left_comm], z, Int.mul_zero]
        show (([] : List (Int × Int)), k' * units ([], 0) (.cr b' a' k')) = ([], k * ((Fm.cr b' a' k').after c + 1) * k' * units r (.lf b a k c))
        rw [units_none, Int.mul_zero, e]
    · rw [show runAfter r (.lf b a k c) = ([(k * units r (.lf b a k c), c)], 0) from if_neg z]
      cases g with
      | keep b' a' =>
        show (merged [(k * units r (.lf b a k c), (Fm.keep b' a').after c)], (0 : Int)) = if k * units r (.lf b a k c) = 0 then ([], 0) else ([(k * units r (.lf b a k c), (Fm.keep b' a').after c)], 0)
        rw [if_neg z]
        rfl
      | lf b' a' k' c' =>
        show (if k' * units ([(k * units r (.lf b a k c), c)], 0) (.lf b' a' k' c') = 0 then (([] : List (Int × Int)), (0 : Int)) else ([(k' * units ([(k * units r (.lf b a k c), c)], 0) (.lf b' a' k' c'), c')], 0)) =
          if k * ((Fm.lf b' a' k' c').after c + 1) * k' * units r (.lf b a k c) = 0 then ([], 0) else ([(k * ((Fm.lf b' a' k' c').after c + 1) * k' * units r (.lf b a k c), c')], 0)
        rw [units_one, show k' * (k * units r (.lf b a k c) * ((Fm.lf b' a' k' c').after c + 1)) = k * ((Fm.lf b' a' k' c').after c + 1) * k' * units r (.lf b a k c) by
          simp only [Int.mul_assoc, Int.mul_comm, Int.mul_left_comm]]
      | cr b' a' k' =>
        show (([] : List (Int × Int)), k' * units ([(k * units r (.lf b a k c), c)], 0) (.cr b' a' k')) = ([], k * ((Fm.cr b' a' k').after c + 1) * k' * units r (.lf b a k c))
        rw [units_one, show k' * (k * units r (.lf b a k c) * ((Fm.cr b' a' k').after c + 1)) = k * ((Fm.cr b' a' k').after c + 1) * k' * units r (.lf b a k c) by
          simp only [Int.mul_assoc, Int.mul_comm, Int.mul_left_comm]]
  | cr b a k =>
    cases g with
    | keep b' a' => rfl
    | lf b' a' k' c' =>
      show (if k' * units ([], k * units r (.cr b a k)) (.lf b' a' k' c') = 0 then (([] : List (Int × Int)), (0 : Int)) else ([(k' * units ([], k * units r (.cr b a k)) (.lf b' a' k' c'), c')], 0)) =
        if k * 1 * k' * units r (.cr b a k) = 0 then ([], 0) else ([(k * 1 * k' * units r (.cr b a k), c')], 0)
      rw [units_none, Int.mul_one, show k' * (k * units r (.cr b a k)) = k * k' * units r (.cr b a k) by simp only [Int.mul_assoc, Int.mul_comm, Int.mul_left_comm]]
    | cr b' a' k' =>
      show (([] : List (Int × Int)), k' * units ([], k * units r (.cr b a k)) (.cr b' a' k')) = ([], k * 1 * k' * units r (.cr b a k))
      rw [units_none, Int.mul_one, show k' * (k * units r (.cr b a k)) = k * k' * units r (.cr b a k) by simp only [Int.mul_assoc, Int.mul_comm, Int.mul_left_comm]]
end Lx
/-! promises of defs that are called where no repr is at work -/
namespace Lx
open PySem PySem.Spec L2
open PyProof.Rows (AllBare IntsAre)
/-- as FnOk, at callers in which no guarded call (a repr, a comparison) runs -/
structure FnG (P : Program) (w : World) (K : PySem.W.Frag) (mg : Str → Option Value) (base : Heap) (CX : CXT) (k : Nat) (f : Addr) (fd : FuncData) (ps : List Str) (sp : Sp) : Prop where
  len : ∀ vs H Q E, sp vs H Q E → vs.length = ps.length
  go : ∀ (A : Around) (outer : List Env) (s : Shared) (H : Hp) (args : Args) (us : List Value) (vs : List V) (Q : VK) (E : XK), Room k A → A.guards = some [] → Env0 P w K mg base A outer s H → BindsTo s fd args (ps.zip us) → Vals vs us → sp vs H Q E →
    codeAny (model P w) A (.call (.ref f) args) (CR CX outer P w H s Q E) s
section
variable {P : Program} {w : World} {K : PySem.W.Frag} {mg : Str → Option Value} {base : Heap} {CX : CXT}
theorem FnG.of {k : Nat} {f : Addr} {fd : FuncData} {ps : List Str} {sp : Sp} (F : FnOk P w K mg base CX k f fd ps sp) : FnG P w K mg base CX k f fd ps sp :=
  ⟨F.len, fun A outer s H args us vs Q E hr _ he hb hv hs => F.run A outer s H args us vs Q E hr he hb hv hs⟩
/-- a def's promise by its body -/
theorem okG {x qual : Str} {st : Stmt} {f : Addr} {fd : FuncData} {N ps : List Str} {k : Nat} {sp : Sp} (F : Fun K x qual st f fd) (S : FnScope N ps (defScope st)) (len : ∀ vs H Q E, sp vs H Q E → vs.length = ps.length)
    (hb : ∀ (cdv : Value) (A : Around) (outer : List Env) (s : Shared) (H : Hp) (vs : List V) (Q : VK) (E : XK), Room k (A.deeper (PyProof.Rows.envOfC qual (defScope st) s.heap.objs.size f cdv)) → A.guards = some [] → sp vs H Q E →
      ∃ t, PSs (cxOf CX P w K mg base N qual (defScope st) f cdv A outer s H E) (defBody st) t ∧ t { nx := fun _ H' => Q .non H', rt := Q } (start N vs) H) : FnG P w K mg base CX (k + 1) f fd ps sp := by
  obtain ⟨oc, od, kV, doc, pm, an, cdv, ct, osl, rfl, lk, hcd⟩ := F.ex
  refine ⟨len, fun A outer s H args us vs Q E hr hg e0 hbd r hsp => ?_⟩
  have X : K.In s.heap := e0.mod.kin.keeps fun b o e => (e0.bs b o e).1
  have lim : s.heap.NoLimit := e0.mod.nolimit.keeps fun b o e => (e0.bs b o e).1
  refine codeAny_call_function hr.depth (X _ _ lk) rfl S.co S.gen rfl (PySem.W.codeRec_of X hcd) (hbd _ _ _ _ ?_)
  refine wpAny_newFunctionEnv_cells S.kind (fun y hy => ?_) fun env he s1 x1 => ?_
  · obtain ⟨n, v⟩ := y
    rcases S.par n (List.of_mem_zip hy).1 with q | q
    · exact .inl q
    · exact .inr ⟨q, PySem.W.cellsFrom_some _ _ _ (.inl q)⟩
  · subst he
    refine ⟨lim.keeps x1.toInCall.keep, codeAny_func ?_⟩
    obtain ⟨t, ht, hq⟩ := hb cdv A outer s H vs Q E (hr.deeper _) hg hsp
    have I := inv_start (CX := CX) (E := E) S hr.hd e0 (len _ _ _ _ hsp) r x1
    refine wpAny_mono (ht.run [] s1 (start N vs) H _ I hq) (fun fl s2 z => ?_) fun _ _ z => z
    rcases fl with _ | _ | _ | u
    all_goals first
      | (obtain ⟨_, _, _, q⟩ := z; exact q.elim)
      | (obtain ⟨σ2, H2, J, q⟩ := z; exact ⟨V.non, H2, J.os, J.bare, J.base, J.hok, rfl, q⟩)
      | (obtain ⟨v2, σ2, H2, J, rv, q⟩ := z; exact ⟨v2, H2, J.os, J.bare, J.base, J.hok, rv, q⟩)
end
section
variable {X : Cx} {CX : CXT} {k : Nat} {f : Addr} {fd : FuncData} {ps : List Str} {sp : Sp} {dvs : List V} {ds : List Value} {E : XK} {x : Str} {p pos : Pos} {e : Expr} {es : List Expr} {t : TA}
/-- f(e, ..) -/
theorem pe_callG (F : FnG X.prog X.w X.K X.mg X.base CX k f fd ps sp) (hG : X.A.guards = some []) (hr : Room k X.A) (hg : Gl X x) (hm : X.mg x = some (.ref f)) (hk : PySem.W.keepIn X.K (.ref f) = true) (hb : Binds X.K fd ps ds) (hd : Vals dvs ds) (hx : Passes CX X E)
    (ha : PA X (e :: es) t) (hdb : (x == ("__debug__" : Str)) = false := by decide) (he : starEach (e :: es) X.env = (false, eval e X.env) :: starEach es X.env := by rfl) (hpl : (backTo pos (starEach es X.env)).any (·.1) = false := by rfl) :
    PE X (.Call (.Name x p) (e :: es) [] pos) (tCall sp dvs E t) := by
  refine ⟨fun pins s σ H Q I h => ?_⟩
  refine wpAny_Call_Name_kw (ld_glob I hg hm ?_ hdb)
  refine PySem.W.callWith_K (h₀ := X.base) I.ok.mod.kin hk (thn (ha.run pos pins s σ H _ I h) fun us s1 ⟨vs, H1, I1, r, q⟩ => ⟨I1.kIn, ?_⟩) he hpl
  have r2 : Vals (vs ++ dvs) (us ++ ds) := r.append hd
  have hl : (us ++ ds).length = ps.length := by rw [← r2.length]; exact F.len _ _ _ _ q
  show wpAny _ _ (call (.ref f) us) _ _ _
  refine wpAny_call (codeAny_mono (F.go X.A X.stack s1 H1 ⟨us, []⟩ (us ++ ds) (vs ++ dvs) Q E hr hG I1.env0 (hb s1 us I1.kIn hl) r2 q) fun res s' hq => ?_)
  rcases res with er | fl
  · exact hx pins σ H1 s1 er s' I1 hq
  · rcases fl with _ | _ | _ | u
    all_goals first
      | exact I1.after hq
      | exact False.elim hq
end
/-- the heap in which nothing but the script is told -/
def onlyAt (a : Addr) (o : Obj) (ns : List Int) : Hp := fun b => if b = a then some (.frz o (.lst (ns.map V.int))) else none
section
variable {P : Program} {w : World} {K : PySem.W.Frag} {mg mb : Str → Option Value} {CX : CXT} {k : Nat} {fa a : Addr} {fd : FuncData} {x : Str} {sp : Sp} {s : Shared} {vs : List Value} {ns : List Int}
/-- the law's call, from an abstract heap that tells of the script at most -/
theorem lawFrom (KX : K.In s.heap) (hns : s.heap.Ns mainGlobals mg) (hbl : s.heap.Ns builtinsNs mb) (hbb : ∀ x : Str, x ≠ "__name__" → mb x = bootBuiltins x) (hlim : s.heap.NoLimit) (hg : s.gens = #[]) {o : Obj} (ho : s.heap.get? a = some o) (hdict : ∀ es ep, o.data ≠ .dict es ep)
    (hr : Room k callerA) (F : ∀ base : Heap, K.In base → base.Ns mainGlobals mg → FnG P w K mg base CX k fa fd [x] sp) (hbind : ∀ (s : Shared) (u : Value), BindsTo s fd ⟨[u], []⟩ [(x, u)])
    (H : Hp) (hok : HOk P w H s.heap) (hA : ∀ b, H b ≠ none → b = a ∧ K.lookup a = none ∧ H a = some (.frz o (.lst (ns.map V.int)))) (hsp : sp [.ref a] H (fun v _ => v = .bl true) fun _ _ _ => False) (hCX : ∀ e s', CX [] H s (fun _ _ _ => False) e s' → False) :
    codeAny (model P w) callerA (.call (.ref fa) ⟨[.ref a], []⟩) (fun r s' => r = .ok (.ret (.bool true)) ∧ OldK s.heap s'.heap ∧ s'.os = s.os ∧ AllBare s'.gens) s := by
  have free : ∀ {b : Addr} {u : Obj}, s.heap.get? b = some u → (∃ es ep, u.data = .dict es ep) → H b = none := fun {b u} e ⟨es, ep, d⟩ => by
    cases q : H b with
    | none => rfl
    | some z =>
      obtain ⟨rfl, _, _⟩ := hA b (by rw [q]; simp)
      rw [ho] at e
      cases e
      exact (hdict es ep d).elim
  have nsK : ∀ {b : Addr} {m : Str → Option Value}, s.heap.Ns b m → (hidT s.heap H).Ns b m := fun {b m} ⟨u, es, ep, e, d, r⟩ => ⟨u, es, ep, hidT_get e (free e ⟨es, ep, d⟩), d, r⟩
  have kb : K.In (hidT s.heap H) := fun b u e => hidT_get (KX b u e) (by
    cases q : H b with
    | none => rfl
    | some z =>
      obtain ⟨rfl, q2, _⟩ := hA b (by rw [q]; simp)
      rw [q2] at e
      cases e)
  have hM : Mod K mg (hidT s.heap H) := ⟨kb, nsK hns, ⟨mb, nsK hbl, hbb⟩, let ⟨mc, h1, h2⟩ := hlim; ⟨mc, nsK h1, h2⟩⟩
  have e0 : Env0 P w K mg (hidT s.heap H) callerA [] s H := ⟨rfl, hM, fun b u e => of_hidT e, Nat.le_of_eq (hidT_size _ _), trivial, fun b hb => absurd (show b ∈ ([] : List Addr) from hb) (by simp), hok, .of_eq hg⟩
  refine codeAny_mono ((F _ kb (nsK hns)).go callerA [] s H ⟨[.ref a], []⟩ [.ref a] [.ref a] _ _ hr rfl e0 (hbind s (.ref a)) (.cons rfl .nil) hsp) fun r s' h => ?_
  rcases r with e | fl
  · exact (hCX e s' h).elim
  · rcases fl with _ | _ | _ | u
    all_goals first
      | exact False.elim h
      | skip
    obtain ⟨v, H', os, bare, un, hok', r', q⟩ := h
    obtain rfl : v = .bl true := q
    obtain rfl : u = Value.bool true := r'
    refine ⟨rfl, OldK.of_keep fun b u e => ?_, os, bare⟩
    cases q : H b with
    | none => exact un.keep b u e q (fun z => absurd (show b ∈ ([] : List Addr) from z) (by simp)) (by simp)
    | some z =>
      obtain ⟨rfl, _, q3⟩ := hA b (by rw [q]; simp)
      obtain ⟨e2, _⟩ := hok' b _ (un.frzs b o _ q3)
      rw [ho] at e
      cases e
      exact e2
theorem lawCall (KX : K.In s.heap) (hns : s.heap.Ns mainGlobals mg) (hbl : s.heap.Ns builtinsNs mb) (hbb : ∀ x : Str, x ≠ "__name__" → mb x = bootBuiltins x) (hlim : s.heap.NoLimit) (hg : s.gens = #[])
    (ha : s.heap.get? a = some { cls := .type "list", data := .seq vs.toArray }) (hi : IntsAre vs ns) (hl : ns.length ≤ sizeLine) (hr : Room k callerA)
    (F : ∀ base : Heap, K.In base → base.Ns mainGlobals mg → FnG P w K mg base CX k fa fd [x] sp) (hbind : ∀ (s : Shared) (u : Value), BindsTo s fd ⟨[u], []⟩ [(x, u)])
    (hsp : ∀ H : Hp, SqL K H a (ns.map V.int) → sp [.ref a] H (fun v _ => v = .bl true) fun _ _ _ => False) (hCX : ∀ H e s', CX [] H s (fun _ _ _ => False) e s' → False) :
    codeAny (model P w) callerA (.call (.ref fa) ⟨[.ref a], []⟩) (fun r s' => r = .ok (.ret (.bool true)) ∧ OldK s.heap s'.heap ∧ s'.os = s.os ∧ AllBare s'.gens) s := by
  have rv := vals_ints hi
  cases hk : K.lookup a with
  | some o =>
    have e := KX a o hk
    rw [ha] at e
    cases e
    refine lawFrom KX hns hbl hbb hlim hg ha (fun _ _ z => by cases z) hr F hbind (ns := ns) (fun _ => none) (fun b u z => by cases z) (fun b z => absurd rfl z) (hsp _ ?_) (hCX _)
    exact .inr ⟨_, vs.toArray, _, hk, rfl, rfl, rfl, by rw [List.size_toArray, hi.length]; exact hl, by simpa using rv⟩
  | none =>
    refine lawFrom KX hns hbl hbb hlim hg ha (fun _ _ z => by cases z) hr F hbind (ns := ns) (onlyAt a { cls := .type "list", data := .seq vs.toArray } ns) (fun b u z => ?_) (fun b z => ?_) (hsp _ (.inl (.inr ⟨_, if_pos rfl⟩))) (hCX _)
    · by_cases hb : b = a
      · have q := (if_pos hb).symm.trans z
        cases q
        subst hb
        exact ⟨ha, by rw [List.length_map]; exact hl, vs, _, rv, ha⟩
      · have q := (if_neg hb).symm.trans z
        cases q
    · by_cases hb : b = a
      · exact ⟨hb, hk, if_pos rfl⟩
      · exact absurd (if_neg hb) z
end
/-- the end of a law's row -/
theorem endG {l : PySem.W.OpenLaw} {n k : Nat} {q : Program} {loose : List Str} {XP : (Str → Option Value) → Heap → Prop} {YP : World → Heap → Prop} {d : DefRec} {K : Params → PySem.W.Frag} {CX : World → CXT} {sp : World → Sp} {x : Str}
    (hn : l.most = some n) (hn2 : n ≤ sizeLine) (hdf : d.params.defaults = []) (hr : Room k callerA) (hY : ∀ (w : World) (h : Heap), YP w h → (K w.params).In h)
    (F : ∀ (w : World) (mg : Str → Option Value) (fa : Addr) (h : Heap), (K w.params).In h → h.Ns mainGlobals mg → mg d.name = some (.ref fa) →
      ∃ fd : FuncData, (∀ (s : Shared) (u : Value), BindsTo s fd ⟨[u], []⟩ [(x, u)]) ∧ ∀ base : Heap, (K w.params).In base → base.Ns mainGlobals mg → FnG l.prog w (K w.params) mg base (CX w) k fa fd [x] (sp w))
    (hsp : ∀ (w : World) (H : Hp) (a : Addr) (ns : List Int), ns.length ≤ n → SqL (K w.params) H a (ns.map V.int) → sp w [.ref a] H (fun v _ => v = .bl true) fun _ _ _ => False)
    (hCX : ∀ (w : World) (H : Hp) (s : Shared) (e : Value) (s' : Shared), CX w [] H s (fun _ _ _ => False) e s' → False) : PySem.W.WalkO q loose XP YP l.row.toRowW d [] (fun f vs => PySem.call f vs) := by
  refine Att.attach_call hn hdf fun w s₀ s₁ mg mb fa o pm cd doc a vs ns G Y ho hd hcd hmg hobj hints hlen hg => ?_
  obtain ⟨fd, hb, hF⟩ := F w mg fa _ (hY w _ Y) G.T.g hmg
  exact lawCall (hY w _ Y) G.T.g G.T.b G.T.builtins G.T.nolimit hg hobj hints (Nat.le_trans hlen hn2) hr hF hb (fun H hS => hsp w H a ns hlen hS) fun H e s' => hCX w H s₁ e s'
end Lx
namespace Lx
open PySem PySem.Spec L2
/-! ### repr of data -/
structure Fit (d : PyData) : Prop where
  can : d.showable = true
  no : d.hasDict = false
  dep : d.depth ≤ 40
  len : d.shown.length ≤ sizeLine
/-- repr(x), x data -/
def rRepr (K : PySem.W.Frag) : List V → Hp → VK → Prop := fun xs H Q => ∃ x d, xs = [x] ∧ Dp K H x d ∧ Fit d ∧ Q (.str d.shown) H
theorem call_reprD {X : Cx} (hG : X.A.guards = some []) (hu : X.A.units + 64 < cLine) : CallR X (.builtin "repr") (rRepr X.K) := by
  intro pins s σ H xs us Q I r h
  obtain ⟨x, d, rfl, hd, F, q⟩ := h
  obtain ⟨u, rfl, r1⟩ := vals1 r
  obtain ⟨as, rd⟩ := Dp.reads I d x u hd r1
  have big : ∀ a : Addr, u = .ref a → wpAny (model X.prog X.w) X.A (call (.builtin "repr") [u]) (EP X pins σ Q) X.xe s := fun a e => by
    subst e
    exact repr_of_reads' rd F.can (PyData.noDict_hsm F.no) hG (by have := F.dep; omega) (fun _ _ e => e) (fun h' t tk kp => ⟨.str d.shown, H, I.kept (t' := tk) kp, ⟨t, rfl⟩, q⟩) F.len
  cases hd with
  | non =>
    cases r1
    exact P.repr_of_none ⟨.str _, H, I.tok _, ⟨_, rfl⟩, q⟩
  | bl b =>
    cases r1
    exact P.repr_of_bool ⟨.str _, H, I.tok _, ⟨_, rfl⟩, by cases b <;> exact q⟩
  | int i =>
    obtain ⟨t, rfl⟩ := r1
    exact P.repr_of_int (of_decide_eq_true F.can) ⟨.str _, H, I.tok _, ⟨_, rfl⟩, q⟩
  | str y =>
    obtain ⟨t, rfl⟩ := r1
    exact P.repr_of_str ⟨.str _, H, I.tok _, ⟨_, rfl⟩, q⟩ F.len
  | lst _ _ => exact big _ r1
  | tup _ _ => exact big _ r1
/-! ### which class is which -/
section
variable {K : PySem.W.Frag} {file : Str} {mg : Str → Option Value} {L C D : Addr} {nm qual nm2 qual2 : Str} {st st2 : Stmt}
theorem ErrC.some_ (T : ErrC K file mg L nm qual st C) : (PySem.W.clsIn K C).isSome = true := by
  obtain ⟨cd, e, _⟩ := T.chain
  rw [e]; rfl
theorem LineC.some_ (T : LineC K mg L) : (PySem.W.clsIn K L).isSome = true := by
  obtain ⟨n, q, N, bs, sn, sub, ab, col, dd, k0, k1, k2, k3, k5, hL⟩ := T.cls
  unfold PySem.W.clsIn
  rw [hL] <;> rfl
theorem kit_ref {b : Bool} (h1 : (PySem.W.clsIn K D).isSome = true) (h2 : PySem.W.typeIn K (.ref D) = some (.type "type")) (T : ErrC K file mg L nm qual st C) (h : (Value.ref C :: .ref L :: HandSPX.veTail).contains (.ref D) = b) : PySem.W.kitOne K (.ref C) (.ref D) = some b := by
  unfold PySem.W.kitOne
  by_cases e : C = D
  · subst e
    have z : (Value.ref C == Value.ref C) = true := by simp
    rw [if_pos z, ← h]
    simp
  · have z : ¬ (Value.ref C == Value.ref D) = true := by simpa using e
    rw [if_neg z]
    show (if ((PySem.W.clsIn K D).isSome && PySem.W.typeIn K (.ref D) == some (.type "type")) = true then PySem.W.subIn K (.ref C) (.ref D) else none) = some b
    rw [h1, h2, if_pos (by rfl)]
    exact (T.under _).trans (by rw [h])
theorem kit_err (T : ErrC K file mg L nm qual st C) (T2 : ErrC K file mg L nm2 qual2 st2 D) (hD : D ≠ L) : PySem.W.kitOne K (.ref C) (.ref D) = some (decide (C = D)) := by
  refine kit_ref T2.some_ T2.ty T ?_
  rw [List.contains_cons, List.contains_cons]
  have e1 : (Value.ref D == Value.ref L) = false := by simpa using hD
  have e2 : List.contains HandSPX.veTail (Value.ref D) = false := by rfl
  rw [e1, e2]
  by_cases e : C = D
  · subst e; simp
  · have z : (Value.ref D == Value.ref C) = false := by simpa using Ne.symm e
    rw [z, decide_eq_false e]; rfl
theorem kit_line (TL : LineC K mg L) (T : ErrC K file mg L nm qual st C) : PySem.W.kitOne K (.ref C) (.ref L) = some true := kit_ref TL.some_ TL.ty T (by simp)
theorem kit_ve (T : ErrC K file mg L nm qual st C) : PySem.W.kitOne K (.ref C) (.type "ValueError") = some true := by
  unfold PySem.W.kitOne
  rw [if_neg (by simp)]
  show (if PySem.W.kitMeta "ValueError" = true then PySem.W.subIn K (.ref C) (.type "ValueError") else none) = some true
  rw [if_pos (by decide +kernel)]
  exact (T.under _).trans (by rfl)
end
/-! ### data that repr can write -/
/-- ints below 2 ^ 400, texts of plain signs -/
def small : PyData → Bool
  | .none | .bool _ => true
  | .int i => decide (i.natAbs < 2 ^ 400)
  | .str x => x.cps.toList.all fun c => decide (c < 128)
  | .list xs | .tuple xs => smallAll xs
  | .dict _ => false
where smallAll : List PyData → Bool
  | [] => true
  | x :: xs => small x && smallAll xs
theorem int_log {i : Int} (h : i.natAbs < 2 ^ 400) : i.natAbs.log2 < 400 := PySem.Flt.log2_lt_of (by decide) h
theorem int_shown {i : Int} (h : i.natAbs < 2 ^ 400) : (PyData.shown (.int i)).length ≤ 401 := by
  have e := int_text_length_le (k := 400) (by decide) (int_log h)
  show (Str.ofString (toString i)).length ≤ 401
  rw [ofString_length]
  omega
mutual
theorem small_can : ∀ d : PyData, small d = true → d.showable = true
  | .none, _ => rfl
  | .bool _, _ => rfl
  | .int i, h => by
    have e := int_log (of_decide_eq_true (show decide (i.natAbs < 2 ^ 400) = true by simpa only [small] using h))
    simp only [PyData.showable]
    exact decide_eq_true (by omega)
  | .str _, _ => rfl
  | .list xs, h => by
    simp only [PyData.showable]
    exact small_canAll xs (by simpa only [small] using h)
  | .tuple xs, h => by
    simp only [PyData.showable]
    exact small_canAll xs (by simpa only [small] using h)
  | .dict _, h => by simp [small] at h
theorem small_canAll : ∀ xs : List PyData, small.smallAll xs = true → PyData.showableAll xs = true
  | [], _ => rfl
  | x :: xs, h => by
    have h' : small x = true ∧ small.smallAll xs = true := by simpa only [small.smallAll, Bool.and_eq_true] using h
    simp only [PyData.showableAll, Bool.and_eq_true]
    exact ⟨small_can x h'.1, small_canAll xs h'.2⟩
end
mutual
theorem small_no : ∀ d : PyData, small d = true → d.hasDict = false
  | .none, _ => rfl
  | .bool _, _ => rfl
  | .int i, h => rfl
  | .str _, _ => rfl
  | .list xs, h => by
    simp only [PyData.hasDict]
    exact small_noAll xs (by simpa only [small] using h)
  | .tuple xs, h => by
    simp only [PyData.hasDict]
    exact small_noAll xs (by simpa only [small] using h)
  | .dict _, h => by simp [small] at h
theorem small_noAll : ∀ xs : List PyData, small.smallAll xs = true → PyData.hasDictAll xs = false
  | [], _ => rfl
  | x :: xs, h => by
    have h' : small x = true ∧ small.smallAll xs = true := by simpa only [small.smallAll, Bool.and_eq_true] using h
    simp only [PyData.hasDictAll, Bool.or_eq_false_iff]
    exact ⟨small_no x h'.1, small_noAll xs h'.2⟩
end
mutual
theorem small_leaves : ∀ d : PyData, small d = true → d.leavesShort 401 = true
  | .none, _ => rfl
  | .bool _, _ => rfl
  | .int i, h => by
    have e := int_shown (of_decide_eq_true (show decide (i.natAbs < 2 ^ 400) = true by simpa only [small] using h))
    simp only [PyData.leavesShort]
    exact decide_eq_true e
  | .str x, h => by
    simp only [PyData.leavesShort, List.all_eq_true, decide_eq_true_eq]
    simp only [small, List.all_eq_true, decide_eq_true_eq] at h
    intro c hc
    exact Nat.lt_of_lt_of_le (h c hc) (by decide)
  | .list xs, h => by
    simp only [PyData.leavesShort]
    exact small_leavesAll xs (by simpa only [small] using h)
  | .tuple xs, h => by
    simp only [PyData.leavesShort]
    exact small_leavesAll xs (by simpa only [small] using h)
  | .dict _, h => by simp [small] at h
theorem small_leavesAll : ∀ xs : List PyData, small.smallAll xs = true → PyData.leavesShortAll 401 xs = true
  | [], _ => rfl
  | x :: xs, h => by
    have h' : small x = true ∧ small.smallAll xs = true := by simpa only [small.smallAll, Bool.and_eq_true] using h
    simp only [PyData.leavesShortAll, Bool.and_eq_true]
    exact ⟨small_leaves x h'.1, small_leavesAll xs h'.2⟩
end
theorem fit_small {d : PyData} (h : small d = true) (hd : d.depth ≤ 40) (hb : d.bulk ≤ 40000) : Fit d := by
  refine ⟨small_can d h, small_no d h, hd, ?_⟩
  have e := PyData.shown_le_bulk 401 (by decide) d (small_leaves d h)
  have e2 : (401 + 2) * d.bulk ≤ 403 * 40000 := Nat.mul_le_mul (by decide) hb
  rw [sizeLine_eq]
  omega
end Lx
namespace Lx
open PySem PySem.Spec L2 PyProof.Rows
/-! ### f(k = v, ..) of a def -/
section
variable {X : Cx} {CX : CXT} {k : Nat} {f : Addr} {fd : FuncData} {ps ks : List Str} {sp : Sp} {E : XK} {x : Str} {p pos : Pos} {kws : List Keyword} {tk : TA} {g : List Value → List Value → List Value} {gV : List V → List V → List V}
theorem pe_callK0 (F : FnOk X.prog X.w X.K X.mg X.base CX k f fd ps sp) (hr : Room k X.A) (hg : Gl X x) (hm : X.mg x = some (.ref f)) (hk : PySem.W.keepIn X.K (.ref f) = true) (hb : KBinds X.K fd ps ks g gV) (hx : Passes CX X E)
    (hkw : PK X kws tk) (hall : (backToKw pos (keywordEach kws X.env)).all (·.1.isSome) = true := by rfl) (hks : (backToKw pos (keywordEach kws X.env)).filterMap (·.1) = ks := by rfl)
    (hdb : (x == ("__debug__" : Str)) = false := by decide) (hpl : ((backTo pos (starEach [] X.env)).any (·.1) || (backToKw pos (keywordEach kws X.env)).any (·.1.isNone)) = false := by rfl) :
    PE X (.Call (.Name x p) [] kws pos) (tCallK sp gV E tNil tk) := by
  refine ⟨fun pins s σ H Q I h => ?_⟩
  refine wpAny_Call_Name_kw (ld_glob I hg hm ?_ hdb)
  refine PySem.W.callWith_KW0 (h₀ := X.base) I.ok.mod.kin hk hall ?_ hpl
  refine thn (hkw.run pos pins s σ H _ I h) fun ws s2 ⟨zs, H2, I2, rz, q2⟩ => ⟨I2.kIn, ?_⟩
  rw [hks]
  exact run_fnk (us := []) (vs := []) F hr hb hx I2 .nil rz q2
end
/-- two keywords, the second parameter's first -/
def g21 (α : Type) : List α → List α → List α
  | [], [a, b] => [b, a]
  | _, _ => []
def g1 (α : Type) : List α → List α → List α
  | [], [a] => [a]
  | _, _ => []
theorem kb21 {K : PySem.W.Frag} {x qual : Str} {st : Stmt} {f : Addr} {fd : FuncData} {p1 p2 : Str} (F : Fun K x qual st f fd)
    (h : ∀ (kV doc pm : Value) (an : Option Addr) (cdv ct a b : Value), bindArgs (PySem.W.fnOf x qual (defArgs st) (defBody st) (defScope st) .none kV doc pm an cdv ct) ⟨[], [(p2, a), (p1, b)]⟩ = pure [(p1, b), (p2, a)]) : KBinds K fd [p1, p2] [p2, p1] (g21 Value) (g21 V) := by
  obtain ⟨oc, od, kV, doc, pm, an, cdv, ct, osl, rfl, lk, hcd⟩ := F.ex
  refine ⟨fun s us ws _ hl => ?_, fun {vs us zs ws} r1 r2 => ?_⟩
  · match us, ws, hl with
    | [], [a, b], _ => exact .of_eq (h kV doc pm an cdv ct a b)
    | [], [], hl => exact absurd hl (by simp [g21])
    | [], [_], hl => exact absurd hl (by simp [g21])
    | [], _ :: _ :: _ :: _, hl => exact absurd hl (by simp [g21])
    | _ :: _, _, hl => exact absurd hl (by simp [g21])
  · cases r1 with
    | cons _ _ => exact .nil
    | nil =>
      cases r2 with
      | nil => exact .nil
      | cons a t =>
        cases t with
        | nil => exact .nil
        | cons b t =>
          cases t with
          | nil => exact .cons b (.cons a .nil)
          | cons _ _ => exact .nil
theorem kb1 {K : PySem.W.Frag} {x qual : Str} {st : Stmt} {f : Addr} {fd : FuncData} {p1 : Str} (F : Fun K x qual st f fd)
    (h : ∀ (kV doc pm : Value) (an : Option Addr) (cdv ct a : Value), bindArgs (PySem.W.fnOf x qual (defArgs st) (defBody st) (defScope st) .none kV doc pm an cdv ct) ⟨[], [(p1, a)]⟩ = pure [(p1, a)]) : KBinds K fd [p1] [p1] (g1 Value) (g1 V) := by
  obtain ⟨oc, od, kV, doc, pm, an, cdv, ct, osl, rfl, lk, hcd⟩ := F.ex
  refine ⟨fun s us ws _ hl => ?_, fun {vs us zs ws} r1 r2 => ?_⟩
  · match us, ws, hl with
    | [], [a], _ => exact .of_eq (h kV doc pm an cdv ct a)
    | [], [], hl => exact absurd hl (by simp [g1])
    | [], _ :: _ :: _, hl => exact absurd hl (by simp [g1])
    | _ :: _, _, hl => exact absurd hl (by simp [g1])
  · cases r1 with
    | cons _ _ => exact .nil
    | nil =>
      cases r2 with
      | nil => exact .nil
      | cons a t =>
        cases t with
        | nil => exact .cons a .nil
        | cons _ _ => exact .nil
end Lx
/-! texts repeated -/
namespace Lx
open PySem PySem.Spec L2
/-- the signs of a text, n times -/
def rep (x : Str) (n : Nat) : Str := ⟨((List.replicate n x.cps.toList).flatten).toArray⟩
theorem rep_list (x : Str) (n : Nat) : (rep x n).cps.toList = (List.replicate n x.cps.toList).flatten := rfl
theorem rep_len (x : Str) (n : Nat) : (rep x n).length = x.length * n := by
  show ((List.replicate n x.cps.toList).flatten).toArray.size = x.cps.size * n
  rw [List.size_toArray, List.length_flatten, List.map_replicate, List.sum_replicate_nat, Array.length_toList, Nat.mul_comm]
theorem rep_one (x : Str) : rep x 1 = x := by
  have e : (rep x 1).cps.toList = x.cps.toList := by simp [rep_list]
  exact Str.ext' (Array.toList_inj.mp e)
theorem rep_zero (x : Str) : rep x 0 = Str.empty := rfl
theorem fold_rep (a : Array Nat) : ∀ (n : Nat) (b : Array Nat), ((List.replicate n a).foldl (· ++ ·) b).toList = b.toList ++ (List.replicate n a.toList).flatten
  | 0, b => by simp
  | n + 1, b => by
    rw [List.replicate_succ, List.foldl_cons, fold_rep a n, List.replicate_succ, List.flatten_cons, Array.toList_append, List.append_assoc]
theorem rep_fold (x : Str) (n : Nat) : (⟨(List.replicate n x.cps).foldl (· ++ ·) #[]⟩ : Str) = rep x n := by
  have e : ((List.replicate n x.cps).foldl (· ++ ·) #[]).toList = (rep x n).cps.toList := by
    rw [fold_rep, rep_list]; rfl
  exact Str.ext' (Array.toList_inj.mp e)
theorem rep_empty (x : Str) (n : Nat) (h : x.length = 0) : rep x n = x := by
  have e : x.cps.toList = [] := List.eq_nil_of_length_eq_zero (by rw [Array.length_toList]; exact h)
  have e2 : (rep x n).cps.toList = x.cps.toList := by
    rw [rep_list, e]
    induction n with
    | zero => rfl
    | succ n ih => rw [List.replicate_succ, List.flatten_cons, ih]; rfl
  exact Str.ext' (Array.toList_inj.mp e2)
/-- text * k -/
def rRepS : R2 := fun x y H Q => ∃ (z : Str) (k : Int), x = .str z ∧ y = .int k ∧ 0 ≤ k ∧ k < 1000000000 ∧ z.length * k.toNat ≤ sizeLine ∧ Q (.str (rep z k.toNat)) H
theorem op_repS {X : Cx} : OpR X (binaryOp .Mult) rRepS := by
  intro pins s σ H x y v u Q I rx ry h
  obtain ⟨z, k, rfl, rfl, h0, h1, hz, q⟩ := h
  obtain ⟨t, rfl⟩ := rx
  obtain ⟨t', rfl⟩ := ry
  have hlong : PySem.Builtin.Str.tooLong (z.length * k.toNat) = false := by
    unfold PySem.Builtin.Str.tooLong
    exact decide_eq_false (by omega)
  refine P.mul_str (by rw [decide_eq_false (by omega), decide_eq_false (by omega)]; rfl) (fun hk _ => ?_) (fun _ _ => hlong) ?_
  · have e : (z.length : Int) * k ≤ 2 ^ 63 - 1 := by
      have e1 : (z.length : Int) * k = ((z.length * k.toNat : Nat) : Int) := by
        rw [Int.natCast_mul, Int.toNat_of_nonneg h0]
      have e2 : sizeLine ≤ 9223372036854775807 := by rw [sizeLine_eq]; decide
      rw [e1]
      omega
    have hkp : 0 < k := by omega
    have := Int.le_ediv_of_mul_le hkp e
    omega
  · by_cases hk : k < 1
    · rw [if_pos hk]
      have e : k.toNat = 0 := by omega
      rw [e, rep_zero] at q
      exact ⟨by decide, ⟨.str _, H, I.tok _, ⟨_, rfl⟩, q⟩⟩
    · rw [if_neg hk]
      by_cases h2 : (k == 1 || z.length == 0) = true
      · rw [if_pos h2]
        have e : rep z k.toNat = z := by
          rcases Bool.or_eq_true_iff.mp h2 with e | e
          · have e' : k.toNat = 1 := by have := beq_iff_eq.mp e; omega
            rw [e', rep_one]
          · exact rep_empty _ _ (beq_iff_eq.mp e)
        rw [e] at q
        exact ⟨.str _, H, I, ⟨_, rfl⟩, q⟩
      · rw [if_neg h2, rep_fold]
        exact ⟨by rw [rep_len]; exact hz, ⟨.str _, H, I.tok _, ⟨_, rfl⟩, q⟩⟩
end Lx
namespace Lw
open PySem PySem.Spec L2 Lx
theorem same_upd {H : Hp} {p : Addr} {o : HO} (h : H p = none) : Same H (upd H p o) := fun b x e => by
  rw [upd_ne (ne_of_none e h)]
  exact e
abbrev steps : Str := "UDMN"
def ChOk (x : Str) : Prop := ∀ c ∈ x.cps.toList, c ∈ steps.cps.toList
abbrev nothing : Fm := .keep 0 0
def stepF (c : Nat) : Fm := if c = 85 then .keep 0 1 else if c = 68 then .keep 1 0 else if c = 77 then .lf 0 0 1 0 else .cr 0 0 1
def formL (cs : List Nat) : Fm := cs.foldl (fun f c => f.both (stepF c)) nothing
def formOf (x : Str) : Fm := formL x.cps.toList
def FLe (L : Nat) : Fm → Prop
  | .keep b a => 0 ≤ b ∧ b ≤ L ∧ 0 ≤ a ∧ a ≤ L
  | .lf b a k c => 0 ≤ b ∧ b ≤ L ∧ 0 ≤ a ∧ a ≤ L ∧ 0 < k ∧ Sm (13 * L + 1) k ∧ 0 ≤ c ∧ c ≤ L
  | .cr b a k => 0 ≤ b ∧ b ≤ L ∧ 0 ≤ a ∧ a ≤ L ∧ 0 < k ∧ Sm (13 * L + 1) k
theorem sm_le {L : Nat} {x : Int} (h0 : 0 ≤ x) (h : x ≤ L) : Sm (13 * L + 1) x := by
  have h1 : L < 2 ^ L := Nat.lt_two_pow_self
  have h2 : 2 ^ L ≤ 2 ^ (13 * L + 1) := Nat.pow_le_pow_right (by decide) (by omega)
  unfold Sm
  omega
theorem FLe.ok {L : Nat} : ∀ {f : Fm}, FLe L f → f.Ok (13 * L + 1)
  | .keep _ _, ⟨h1, h2, h3, h4⟩ => ⟨h1, h3, sm_le h1 h2, sm_le h3 h4⟩
  | .lf _ _ _ _, ⟨h1, h2, h3, h4, h5, h6, h7, h8⟩ => ⟨h1, h3, h5, h7, sm_le h1 h2, sm_le h3 h4, h6, sm_le h7 h8⟩
  | .cr _ _ _, ⟨h1, h2, h3, h4, h5, h6⟩ => ⟨h1, h3, h5, sm_le h1 h2, sm_le h3 h4, h6⟩
theorem step_cases {c : Nat} (h : c ∈ steps.cps.toList) : stepF c = .keep 0 1 ∨ stepF c = .keep 1 0 ∨ stepF c = .lf 0 0 1 0 ∨ stepF c = .cr 0 0 1 := by
  unfold stepF
  split
  · exact .inl rfl
  · split
    · exact .inr (.inl rfl)
    · split
      · exact .inr (.inr (.inl rfl))
      · exact .inr (.inr (.inr rfl))
theorem sm_mul {L : Nat} {k x : Int} (hk : Sm (13 * L + 1) k) (h0 : 0 ≤ x) (h : x < 8192) : Sm (13 * (L + 1) + 1) (k * x * 1) := by
  have e : Sm 13 x := by
    unfold Sm
    have : (2 : Nat) ^ 13 = 8192 := by decide
    omega
  rw [Int.mul_one]
  exact (hk.mul e).mono (by omega)
theorem sm_up {L : Nat} {k : Int} (hk : Sm (13 * L + 1) k) : Sm (13 * (L + 1) + 1) k := hk.mono (by omega)
theorem pp (x : Int) : 0 ≤ (if x > 0 then x else 0) ∧ ((if x > 0 then x else 0) = x ∨ ((if x > 0 then x else 0) = 0 ∧ x ≤ 0)) := by
  by_cases h : x > 0
  · rw [if_pos h]; omega
  · rw [if_neg h]; omega
theorem FLe.step {L : Nat} (hL : L ≤ 7000) {c : Nat} (hc : c ∈ steps.cps.toList) {f : Fm} (h : FLe L f) : FLe (L + 1) (f.both (stepF c)) := by
  cases f with
  | keep b a =>
    obtain ⟨h1, h2, h3, h4⟩ := h
    have p1 := pp (0 - a)
    have p2 := pp (a - 0)
    have p3 := pp (1 - a)
    have p4 := pp (a - 1)
    have one : Sm (13 * (L + 1) + 1) 1 := sm_le (L := L + 1) (by decide) (by omega)
    rcases step_cases hc with e | e | e | e <;> rw [e] <;> simp only [Fm.both, Fm.ahead, Fm.b, Fm.a, FLe]
    · exact ⟨by omega, by omega, by omega, by omega⟩
    · exact ⟨by omega, by omega, by omega, by omega⟩
    · exact ⟨by omega, by omega, by omega, by omega, by decide, one, by decide, by omega⟩
    · exact ⟨by omega, by omega, by omega, by omega, by decide, one⟩
  | lf b a k d =>
    obtain ⟨h1, h2, h3, h4, h5, h6, h7, h8⟩ := h
    have p1 := pp (d - 0)
    have p2 := pp (d - 1)
    rcases step_cases hc with e | e | e | e <;> rw [e] <;> simp only [Fm.both, Fm.after, Fm.b, Fm.a, FLe]
    · exact ⟨h1, by omega, h3, by omega, h5, sm_up h6, by omega, by omega⟩
    · exact ⟨h1, by omega, h3, by omega, h5, sm_up h6, by omega, by omega⟩
    · refine ⟨h1, by omega, h3, by omega, ?_, sm_mul h6 (by omega) (by omega), by decide, by omega⟩
      rw [Int.mul_one]
      exact Int.mul_pos h5 (by omega)
    · refine ⟨h1, by omega, h3, by omega, ?_, sm_mul h6 (by omega) (by omega)⟩
      rw [Int.mul_one]
      exact Int.mul_pos h5 (by omega)
  | cr b a k =>
    obtain ⟨h1, h2, h3, h4, h5, h6⟩ := h
    rcases step_cases hc with e | e | e | e <;> rw [e] <;> simp only [Fm.both, FLe, Int.mul_one]
    · exact ⟨h1, by omega, h3, by omega, h5, sm_up h6⟩
    · exact ⟨h1, by omega, h3, by omega, h5, sm_up h6⟩
    · exact ⟨h1, by omega, h3, by omega, h5, sm_up h6, by decide, by omega⟩
    · exact ⟨h1, by omega, h3, by omega, h5, sm_up h6⟩
/-- the forms of the steps, and of no step -/
structure StepT (K : PySem.W.Frag) (w : World) (mg : Str → Option Value) (aN aS : Addr) : Prop where
  gN : mg "NOTHING" = some (.ref aN)
  n : ∀ H : Hp, FmAt K H (.ref aN) nothing
  gS : mg "STEP_FORMS" = some (.ref aS)
  s : ∀ c ∈ steps.cps.toList, ∃ v, KDct K w aS ⟨#[c]⟩ v ∧ ∀ H : Hp, FmAt K H v (stepF c)
theorem Same.own {H H' : Hp} {p : Addr} {o : HO} (s : Same H H') (n : H p = none) : Same H (upd H' p o) := fun b x e => by
  rw [upd_ne (ne_of_none e n)]
  exact s b x e
theorem SqT.lstUpd {K : PySem.W.Frag} {H : Hp} {a p : Addr} {xs ys : List V} {o : HO} (h : SqT K H a xs) (e : H p = some (.lst ys)) : SqT K (upd H p o) a xs := by
  have ne : ∀ o', H a = some o' → (∀ zs, o' ≠ .lst zs) → a ≠ p := fun o' h1 h2 z => by
    subst z
    rw [e] at h1
    exact h2 _ (Option.some.inj h1).symm
  rcases h with (h | ⟨q, h⟩) | h
  · exact .inl (.inl (by rw [upd_ne (ne _ h (fun zs z => by cases z))]; exact h))
  · exact .inl (.inr ⟨q, by rw [upd_ne (ne _ h (fun zs z => by cases z))]; exact h⟩)
  · exact .inr h
theorem Prs.lstUpd {K : PySem.W.Frag} {H : Hp} {p : Addr} {ys : List V} {o : HO} (e : H p = some (.lst ys)) : ∀ {vs : List V} {gs : List (Int × Int)}, Prs K H vs gs → Prs K (upd H p o) vs gs
  | _, _, .nil => .nil
  | _, _, .cons ⟨q, h1, h2⟩ t => .cons ⟨q, h1, by rw [upd_ne (ne_of h2 e (by intro z; cases z))]; exact h2⟩ (Prs.lstUpd e t)
theorem Prs.back {K : PySem.W.Frag} {H : Hp} : ∀ {vs : List V} {gs : List (Int × Int)} {x : Int × Int}, Prs K H vs (gs ++ [x]) → ∃ ws v, vs = ws ++ [v] ∧ Prs K H ws gs ∧ PrAt H v x
  | _, [], x, h => by
    cases h with
    | cons h1 t =>
      cases t
      exact ⟨[], _, rfl, .nil, h1⟩
  | _, g :: gs, x, h => by
    cases h with
    | cons h1 t =>
      obtain ⟨ws, v, rfl, a, b⟩ := Prs.back (gs := gs) t
      exact ⟨_ :: ws, v, rfl, .cons h1 a, b⟩
theorem snoc_or {α : Type} : ∀ l : List α, l = [] ∨ ∃ a x, l = a ++ [x]
  | [] => .inl rfl
  | x :: l => by
    rcases snoc_or l with rfl | ⟨a, y, rfl⟩
    · exact .inr ⟨[], x, rfl⟩
    · exact .inr ⟨x :: a, y, rfl⟩
theorem addTo_nil (x : Int × Int) : addTo [] x = [x] := rfl
theorem addTo_snoc (a : List (Int × Int)) (y x : Int × Int) : addTo (a ++ [y]) x = if y.2 = x.2 then a ++ [(y.1 + x.1, x.2)] else a ++ [y] ++ [x] := by
  unfold addTo
  rw [List.getLast?_concat]
  simp
theorem ixN_last {α : Type} (a : List α) (x : α) : ixN (a ++ [x]).length (-1) = some a.length := by
  unfold ixN
  simp
  omega
/-- numbers of groups that may be reckoned with -/
def RnSm (n : Nat) (r : List (Int × Int) × Int) : Prop := (∀ x ∈ r.1, 0 ≤ x.1 ∧ 0 ≤ x.2 ∧ Sm n x.1 ∧ Sm n x.2) ∧ 0 ≤ r.2 ∧ Sm n r.2 ∧ r.1.length ≤ 1000
theorem RnOk.sm {n : Nat} {r : List (Int × Int) × Int} (h : RnOk n r) : RnSm n r := ⟨fun x hx => by
  obtain ⟨i, hi⟩ := List.mem_iff_getElem?.mp hx
  obtain ⟨h1, h2, h3, h4, _⟩ := h.gs i x hi
  exact ⟨by omega, h2, h3, h4⟩, h.rest.1, h.rest.2, h.len⟩
theorem sum_mapV {gs : List (Int × Int)} {f : Fm} : ((gs.map fun x => x.1 * (f.after x.2 + 1))).sum = total (moved f gs) := by
  unfold total moved
  rw [List.map_map]
  rfl
theorem sum_sm {m : Nat} : ∀ (ts : List Int), (∀ t ∈ ts, 0 ≤ t ∧ Sm m t) → 0 ≤ ts.sum ∧ ts.sum ≤ ts.length * (2 ^ m : Nat)
  | [], _ => ⟨by decide, by simp⟩
  | t :: ts, h => by
    obtain ⟨h0, h1⟩ := h t (List.mem_cons_self ..)
    obtain ⟨i0, i1⟩ := sum_sm ts fun x hx => h x (List.mem_cons_of_mem _ hx)
    rw [List.sum_cons, List.length_cons]
    have e : ((ts.length + 1 : Nat) : Int) * (2 ^ m : Nat) = ts.length * (2 ^ m : Nat) + (2 ^ m : Nat) := by
      rw [Int.natCast_add, Int.add_mul]
      simp
    unfold Sm at h1
    rw [e]
    generalize ((ts.length : Nat) : Int) * (2 ^ m : Nat) = T at *
    generalize 2 ^ m = M at *
    omega
theorem units_ok {n : Nat} {r : List (Int × Int) × Int} {f : Fm} (h : RnSm n r) (hf : f.Ok n) : 0 ≤ units r f ∧ Sm (2 * n + 20) (units r f) := by
  have key : ∀ t ∈ (r.1.map fun x => x.1 * (f.after x.2 + 1)), 0 ≤ t ∧ Sm (2 * n + 4) t := by
    intro t ht
    obtain ⟨x, hx, rfl⟩ := List.mem_map.mp ht
    obtain ⟨x1, x2, x3, x4⟩ := h.1 x hx
    have hb := Fm.after_ok hf x2 x4
    have hb2 : Sm (n + 2) (f.after x.2 + 1) := hb.2.add (Nat.lt_of_lt_of_le (by decide : (1 : Int).natAbs < 2 ^ 1) (Nat.pow_le_pow_right (by decide) (by omega)))
    exact ⟨Int.mul_nonneg x1 (by have := hb.1; omega), (x3.mul hb2).mono (by omega)⟩
  obtain ⟨s0, s1⟩ := sum_sm _ key
  rw [sum_mapV] at s0 s1
  rw [List.length_map] at s1
  have hl := h.2.2.2
  have hr0 := h.2.1
  have hr1 : r.2.natAbs < 2 ^ n := h.2.2.1
  have e1 : (r.1.length : Int) * (2 ^ (2 * n + 4) : Nat) ≤ 1000 * (2 ^ (2 * n + 4) : Nat) := Int.mul_le_mul_of_nonneg_right (by omega) (Int.natCast_nonneg _)
  have e2 : 2 ^ (2 * n + 20) = 2 ^ (2 * n + 4) * 65536 := by rw [show 2 * n + 20 = (2 * n + 4) + 16 from rfl, Nat.pow_add]
  have e3 : 2 ^ n ≤ 2 ^ (2 * n + 4) := Nat.pow_le_pow_right (by decide) (by omega)
  unfold units Sm
  rw [e2]
  generalize total (moved f r.1) = T at *
  generalize (r.1.length : Int) * (2 ^ (2 * n + 4) : Nat) = U at *
  generalize 2 ^ (2 * n + 4) = M at *
  generalize 2 ^ n = N at *
  omega
/-- a run that has just been made -/
def NewRn (K : PySem.W.Frag) (H H' : Hp) (v : V) (r : List (Int × Int) × Int) : Prop :=
  ∃ p l xs, v = .ref p ∧ H p = none ∧ H l = none ∧ H' p = some (.tup [.ref l, .int r.2]) ∧ H' l = some (.lst xs) ∧ Prs K H' xs r.1
theorem RnSm.mono {n m : Nat} {r : List (Int × Int) × Int} (h : RnSm n r) (k : n ≤ m) : RnSm m r :=
  ⟨fun x hx => ⟨(h.1 x hx).1, (h.1 x hx).2.1, (h.1 x hx).2.2.1.mono k, (h.1 x hx).2.2.2.mono k⟩, h.2.1, h.2.2.1.mono k, h.2.2.2⟩
theorem NewRn.back {K : PySem.W.Frag} {H0 H H' : Hp} {v : V} {r : List (Int × Int) × Int} (s : Same H0 H) (h : NewRn K H H' v r) : NewRn K H0 H' v r := by
  obtain ⟨p, l, xs, h1, h2, h3, h4⟩ := h
  exact ⟨p, l, xs, h1, s.free h2, s.free h3, h4⟩
def CPowW (i j : Int) : Prop := 0 ≤ j ∧ j ≤ 64 ∧ i.natAbs < 2 ^ 200000
theorem op_powW {X : Cx} : OpR X (binaryOp .Pow) (rI CPowW fun i j => .int (i ^ j.toNat)) := opI fun i j _ _ _ _ _ hc q => by
  refine PyProof.Rows.pow_int hc.1 ?_ q
  have h1 := PySem.Flt.log2_lt_of (by decide : 0 < 200000) hc.2.2
  have h2 : Builtin.Int.intBits i ≤ i.natAbs.log2 + 1 := by
    unfold Builtin.Int.intBits
    split <;> omega
  have h3 : (Builtin.Int.intBits i : Int) ≤ 200000 := by omega
  have h4 := hc.2.1
  have h5 := hc.1
  have h6 : (Builtin.Int.intBits i : Int) * j ≤ 200000 * 64 := by
    refine Int.le_trans (Int.mul_le_mul_of_nonneg_right h3 h5) (Int.mul_le_mul_of_nonneg_left h4 (by decide))
  exact Int.le_trans h6 (by decide)
theorem fm {a b : Int} (hb : 0 < b) : 0 ≤ a.fmod b ∧ a.fmod b < b := by
  rw [Int.fmod_eq_emod_of_nonneg a (Int.le_of_lt hb)]
  exact ⟨Int.emod_nonneg a (by omega), Int.emod_lt_of_pos a hb⟩
theorem pow_sm {x : Int} (h0 : 0 ≤ x) (h : x < 2 ^ 200) {j : Int} (j0 : 0 ≤ j) (j1 : j ≤ 64) : CPowW x j := ⟨j0, j1, by
  have h1 : (x.natAbs : Int) < ((2 ^ 200 : Nat) : Int) := by
    rw [Int.natAbs_of_nonneg h0]
    exact h
  exact Nat.lt_of_lt_of_le (Int.ofNat_lt.mp h1) (Nat.pow_le_pow_right (by decide) (by decide))⟩
theorem cube_sm {x : Int} (h0 : 0 ≤ x) (h : x < 2147483648) : Sm 93 (x ^ Int.toNat 3) := by
  have e : x ^ Int.toNat 3 = x * x * x := by
    show x ^ 3 = _
    rw [Int.pow_succ, Int.pow_succ, Int.pow_succ, Int.pow_zero, Int.one_mul]
  have hx : Sm 31 x := by
    unfold Sm
    have : (2 : Nat) ^ 31 = 2147483648 := by decide
    omega
  rw [e]
  exact (hx.mul hx).mul hx
theorem p61 : (2 : Int) ^ Int.toNat 61 - 1 = 2305843009213693951 := by decide +kernel
theorem p61n : (2 : Int) ^ Int.toNat 61 - 1 ≠ 0 := by decide +kernel
theorem p61p : (0 : Int) < (2 : Int) ^ Int.toNat 61 - 1 := by decide +kernel
theorem p18n : (10 : Int) ^ Int.toNat 18 + 9 ≠ 0 := by decide +kernel
theorem while_fin {c : TT} {tb : TS} {D : Ends} {σ : St} {H : Hp} (Fin : St → Hp → Prop) (h : ∀ R : St → Hp → Prop, (∀ σ H, Fin σ H → R σ H) → tWhile c tb { D with nx := R } σ H) (hf : ∀ σ H, Fin σ H → D.nx σ H) : tWhile c tb D σ H := h D.nx hf
theorem dps {K : PySem.W.Frag} {H : Hp} : ∀ ds : List Int, DpAll K H (ds.map V.int) (ds.map PyData.int)
  | [] => .nil
  | d :: ds => .cons (.int d) (dps ds)
theorem shaped_ints (ds : List Int) : SeqAt.shaped (.list (ds.map .int)) = true := by
  have h1 : ∀ ds : List Int, PyData.canLayAll0 (ds.map .int) = true := fun ds => by
    induction ds with
    | nil => rfl
    | cons d ds ih => simp only [List.map_cons, PyData.canLayAll0, PyData.canLay0, ih, Bool.and_self]
  have h2 : ∀ ds : List Int, PyData.depthAll (ds.map .int) = 0 := fun ds => by
    induction ds with
    | nil => rfl
    | cons d ds ih => simp [PyData.depthAll, PyData.depth, ih]
  unfold SeqAt.shaped
  simp [PyData.canLay0, PyData.depth, h1, h2]
theorem p18 : (10 : Int) ^ Int.toNat 18 = 1000000000000000000 := by decide +kernel
def TT (K : PySem.W.Frag) (H : Hp) (a : Addr) : Prop := (∃ ys, H a = some (.tup ys)) ∨ (∃ o, K.lookup a = some o ∧ o.cls = .type "tuple") ∨ ∃ o ys, H a = some (.frz o (.tup ys))
mutual
inductive Dq (K : PySem.W.Frag) (H : Hp) : V → PyData → Prop
  | non : Dq K H .non .none
  | bl (b : Bool) : Dq K H (.bl b) (.bool b)
  | int (i : Int) : Dq K H (.int i) (.int i)
  | str (x : Str) : Dq K H (.str x) (.str x)
  | lst {a : Addr} {xs : List V} {ds : List PyData} : H a = some (.lst xs) → DqAll K H xs ds → Dq K H (.ref a) (.list ds)
  | tup {a : Addr} {xs : List V} {ds : List PyData} : TT K H a → SqT K H a xs → DqAll K H xs ds → Dq K H (.ref a) (.tuple ds)
inductive DqAll (K : PySem.W.Frag) (H : Hp) : List V → List PyData → Prop
  | nil : DqAll K H [] []
  | cons {v : V} {vs : List V} {d : PyData} {ds : List PyData} : Dq K H v d → DqAll K H vs ds → DqAll K H (v :: vs) (d :: ds)
end
theorem TT.ty {K : PySem.W.Frag} {H : Hp} {a : Addr} : TT K H a → TyX K H (.ref a) (.type "tuple")
  | .inl ⟨_, h⟩ => .base (.tup h)
  | .inr (.inl ⟨_, h, c⟩) => .kTuple h c
  | .inr (.inr ⟨_, _, h⟩) => .fTuple h
theorem SqT.tt {K : PySem.W.Frag} {H : Hp} {a : Addr} {xs : List V} : SqT K H a xs → TT K H a
  | .inl (.inl h) => .inl ⟨_, h⟩
  | .inl (.inr ⟨_, h⟩) => .inr (.inr ⟨_, _, h⟩)
  | .inr ⟨_, _, _, h, c, _⟩ => .inr (.inl ⟨_, h, c⟩)
theorem TT.same {K : PySem.W.Frag} {H H' : Hp} {a : Addr} (s : Same H H') : TT K H a → TT K H' a
  | .inl ⟨ys, h⟩ => .inl ⟨ys, s _ _ h⟩
  | .inr (.inl h) => .inr (.inl h)
  | .inr (.inr ⟨o, ys, h⟩) => .inr (.inr ⟨o, ys, s _ _ h⟩)
mutual
theorem Dq.same {K : PySem.W.Frag} {H H' : Hp} (s : Same H H') : ∀ {v : V} {d : PyData}, Dq K H v d → Dq K H' v d
  | _, _, .non => .non
  | _, _, .bl b => .bl b
  | _, _, .int i => .int i
  | _, _, .str x => .str x
  | _, _, .lst h t => .lst (s _ _ h) (DqAll.same s t)
  | _, _, .tup h1 h2 t => .tup (h1.same s) (sameT s h2) (DqAll.same s t)
theorem DqAll.same {K : PySem.W.Frag} {H H' : Hp} (s : Same H H') : ∀ {vs : List V} {ds : List PyData}, DqAll K H vs ds → DqAll K H' vs ds
  | _, _, .nil => .nil
  | _, _, .cons h t => .cons (Dq.same s h) (DqAll.same s t)
end
mutual
theorem Dq.dp {K : PySem.W.Frag} {H : Hp} : ∀ {v : V} {d : PyData}, Dq K H v d → Dp K H v d
  | _, _, .non => .non
  | _, _, .bl b => .bl b
  | _, _, .int i => .int i
  | _, _, .str x => .str x
  | _, _, .lst h t => .lst (.inl (.inl h)) (DqAll.dp t)
  | _, _, .tup _ h2 t => .tup h2 (DqAll.dp t)
theorem DqAll.dp {K : PySem.W.Frag} {H : Hp} : ∀ {vs : List V} {ds : List PyData}, DqAll K H vs ds → DpAll K H vs ds
  | _, _, .nil => .nil
  | _, _, .cons h t => .cons (Dq.dp h) (DqAll.dp t)
end
theorem DqAll.len {K : PySem.W.Frag} {H : Hp} : ∀ {vs : List V} {ds : List PyData}, DqAll K H vs ds → vs.length = ds.length
  | _, _, .nil => rfl
  | _, _, .cons _ t => by rw [List.length_cons, List.length_cons, DqAll.len t]
theorem DqAll.get {K : PySem.W.Frag} {H : Hp} : ∀ {vs : List V} {ds : List PyData}, DqAll K H vs ds → ∀ {i : Nat} {d : PyData}, ds[i]? = some d → ∃ v, vs[i]? = some v ∧ Dq K H v d
  | _, _, .nil, i, d, h => by simp at h
  | _, _, .cons h1 t, 0, d, h => by
    have e := Option.some.inj h
    subst e
    exact ⟨_, rfl, h1⟩
  | _, _, .cons h1 t, i + 1, d, h => DqAll.get t (i := i) h
mutual
def wd : PyData → Bool
  | .list xs | .tuple xs => decide (xs.length ≤ 5000) && wdAll xs
  | _ => true
def wdAll : List PyData → Bool
  | [] => true
  | x :: xs => wd x && wdAll xs
end
theorem wd_get : ∀ (xs : List PyData) (i : Nat) (x : PyData), wdAll xs = true → xs[i]? = some x → wd x = true
  | [], i, x, _, h => by simp at h
  | y :: ys, 0, x, h, e => by
    cases Option.some.inj e
    simp only [wdAll, Bool.and_eq_true] at h
    exact h.1
  | y :: ys, i + 1, x, h, e => by
    simp only [wdAll, Bool.and_eq_true] at h
    exact wd_get ys i x h.2 e
theorem depth_mem : ∀ (xs : List PyData) (i : Nat) (x : PyData), xs[i]? = some x → PyData.depth x ≤ PyData.depthAll xs := fun xs i x h => PyData.depth_le_depthAll xs x (List.mem_of_getElem? h)
def rIxA (K : PySem.W.Frag) : R2 := fun x y H Q => rIxL K x y H Q ∨ rIxT K x y H Q
theorem ix_any {X : Cx} {K : PySem.W.Frag} (h : X.K = K) : IxR X (rIxA K) := by
  subst h
  exact ix_list.or ix_tup
theorem ixA {K : PySem.W.Frag} {H H' : Hp} {a : Addr} {xs : List V} {j : Int} {i : Nat} {v : V} {Q : VK} (sm : Same H H') (h : SqL K H a xs ∨ SqT K H a xs) (e : j = i) (hv : xs[i]? = some v) (q : Q v H') : rIxA K (.ref a) (.int j) H' Q := by
  subst e
  rcases h with h | h
  · exact .inl ⟨a, xs, _, v, rfl, rfl, sm.seq h, atI_nat hv, q⟩
  · exact .inr ⟨a, xs, _, v, rfl, rfl, sameT sm h, atI_nat hv, q⟩
theorem ix_l {X : Cx} {K : PySem.W.Frag} (h : X.K = K) : IxR X (rIxL K) := by
  subst h
  exact ix_list
theorem far_sm {far : Int} (h0 : 4 ≤ far) (h : far < 2 ^ 97) : far.natAbs < 2 ^ 4000 := by
  have e : far.natAbs < 2 ^ 97 := by omega
  exact Nat.lt_of_lt_of_le e (Nat.pow_le_pow_right (by decide) (by decide))
def pd (gs : List (Int × Int)) : List PyData := gs.map fun x => .tuple [.int x.1, .int x.2]
theorem Prs.dp {K : PySem.W.Frag} {H : Hp} : ∀ {vs : List V} {gs : List (Int × Int)}, Prs K H vs gs → DpAll K H vs (pd gs)
  | _, _, .nil => .nil
  | _, _, .cons ⟨p, e, h⟩ t => by
    subst e
    exact .cons (.tup (.inl (.inl h)) (.cons (.int _) (.cons (.int _) .nil))) (Prs.dp t)
theorem pd_lay (gs : List (Int × Int)) : PyData.canLayAll0 (pd gs) = true := by
  unfold pd
  induction gs with
  | nil => rfl
  | cons g gs ih => simp only [List.map_cons, PyData.canLayAll0, PyData.canLay0, ih, Bool.and_self]
theorem pd_depth (gs : List (Int × Int)) : PyData.depthAll (pd gs) ≤ 1 := by
  unfold pd
  induction gs with
  | nil => simp [PyData.depthAll]
  | cons g gs ih =>
    simp only [List.map_cons, PyData.depthAll, PyData.depth]
    omega
theorem pd_shaped (gs : List (Int × Int)) : SeqAt.shaped (.list (pd gs)) = true := by
  have := pd_depth gs
  unfold SeqAt.shaped
  simp only [PyData.canLay0, pd_lay, PyData.depth, Bool.true_and]
  exact decide_eq_true (by omega)
theorem gsok_snoc {n : Nat} {gs : List (Int × Int)} {x : Int × Int} (h : GsOk n gs) (hl : ∀ a y, gs = a ++ [y] → y.2 ≠ x.2) (hx : 1 ≤ x.1 ∧ 0 ≤ x.2 ∧ Sm n x.1 ∧ Sm n x.2) : GsOk n (gs ++ [x]) := by
  intro i z hz
  by_cases hi : i < gs.length
  · rw [List.getElem?_append_left hi] at hz
    obtain ⟨h1, h2, h3, h4, h5⟩ := h i z hz
    refine ⟨h1, h2, h3, h4, fun y hy => ?_⟩
    by_cases hj : i + 1 < gs.length
    · rw [List.getElem?_append_left hj] at hy
      exact h5 y hy
    · have e : i + 1 = gs.length := by omega
      rw [e, List.getElem?_append_right (Nat.le_refl _), Nat.sub_self] at hy
      cases Option.some.inj hy
      rcases snoc_or gs with rfl | ⟨a, y', rfl⟩
      · simp at hi
      · have ea : i = a.length := by
          simp at e
          omega
        subst ea
        simp at hz
        subst hz
        exact Ne.symm (hl a y' rfl)
  · have hle : gs.length ≤ i := by omega
    rw [List.getElem?_append_right hle] at hz
    have e : i - gs.length = 0 := by
      have := (List.getElem?_eq_some_iff.mp hz).1
      simp at this
      omega
    rw [e] at hz
    cases Option.some.inj hz
    refine ⟨hx.1, hx.2.1, hx.2.2.1, hx.2.2.2, fun y hy => ?_⟩
    have := (List.getElem?_eq_some_iff.mp hy).1
    simp at this
    omega
def sameEnd (gs : List (Int × Int)) (j : Int) : Bool := match gs.getLast? with
  | some y => decide (y.2 = j)
  | none => false
theorem sameEnd_snoc (a : List (Int × Int)) (y : Int × Int) (j : Int) : sameEnd (a ++ [y]) j = decide (y.2 = j) := by
  unfold sameEnd
  rw [List.getLast?_concat]
theorem if_by {c : L2.TT} {A B : TS} {D : Ends} {σ : St} {H : Hp} (b : Bool) (R : Hp → Prop) (hc : ∀ K : Bool → Hp → Prop, (∀ H1, R H1 → K b H1) → c σ H K) (h : ∀ H1, R H1 → if b = true then A D σ H1 else B D σ H1) : tIfS c A B D σ H := hc _ h
theorem ix_t {X : Cx} {K : PySem.W.Frag} (h : X.K = K) : IxR X (rIxT K) := by
  subst h
  exact ix_tup
theorem gsok_front {n : Nat} {a : List (Int × Int)} {y : Int × Int} (h : GsOk n (a ++ [y])) : GsOk n a ∧ (∀ a' z, a = a' ++ [z] → z.2 ≠ y.2) ∧ 1 ≤ y.1 ∧ 0 ≤ y.2 := by
  refine ⟨fun i x hx => ?_, fun a' z e => ?_, ?_⟩
  · have hi := (List.getElem?_eq_some_iff.mp hx).1
    obtain ⟨h1, h2, h3, h4, h5⟩ := h i x (by rw [List.getElem?_append_left hi]; exact hx)
    refine ⟨h1, h2, h3, h4, fun w hw => ?_⟩
    have hi2 := (List.getElem?_eq_some_iff.mp hw).1
    exact h5 w (by rw [List.getElem?_append_left hi2]; exact hw)
  · subst e
    have := (h a'.length z (by simp)).2.2.2.2 y (by simp)
    exact fun q => this q.symm
  · have := h a.length y (by simp)
    exact ⟨this.1, this.2.1⟩
def MI (n t : Nat) (acc : List (Int × Int)) : Prop := GsOk (n + 11) acc ∧ (∀ x ∈ acc, x.1 ≤ (t : Int) * (2 ^ n : Nat)) ∧ acc.length ≤ t
theorem mi_sm {n t : Nat} {x : Int} (ht : t ≤ 1000) (h0 : 0 ≤ x) (h : x ≤ (t : Int) * (2 ^ n : Nat)) : Sm (n + 11) x := by
  have e : 2 ^ (n + 11) = 2 ^ n * 2048 := Nat.pow_add 2 n 11
  have e2 : (t : Int) * (2 ^ n : Nat) ≤ 1000 * (2 ^ n : Nat) := Int.mul_le_mul_of_nonneg_right (by omega) (Int.natCast_nonneg _)
  have e3 : 0 < 2 ^ n := Nat.two_pow_pos n
  unfold Sm
  rw [e]
  generalize (t : Int) * (2 ^ n : Nat) = T at *
  generalize 2 ^ n = M at *
  omega
theorem mi_step {n t : Nat} (ht : t < 1000) {acc : List (Int × Int)} {x : Int × Int} (h : MI n t acc) (x1 : 1 ≤ x.1) (x2 : Sm n x.1) (x3 : 0 ≤ x.2) (x4 : Sm (n + 1) x.2) : MI n (t + 1) (addTo acc x) := by
  obtain ⟨h1, h2, h3⟩ := h
  have hM : ((t + 1 : Nat) : Int) * (2 ^ n : Nat) = (t : Int) * (2 ^ n : Nat) + (2 ^ n : Nat) := by
    rw [Int.natCast_add, Int.add_mul]
    simp
  have hx : x.1 < (2 ^ n : Nat) := by
    unfold Sm at x2
    omega
  have ht0 : 0 ≤ (t : Int) * (2 ^ n : Nat) := Int.mul_nonneg (by omega) (Int.natCast_nonneg _)
  have up : ∀ y ∈ acc, y.1 ≤ ((t + 1 : Nat) : Int) * (2 ^ n : Nat) := fun y hy => by
    have := h2 y hy
    omega
  have xs : Sm (n + 11) x.1 := x2.mono (by omega)
  rcases snoc_or acc with rfl | ⟨a, y, rfl⟩
  · refine ⟨gsok_snoc (gs := []) (fun i z hz => by simp at hz) (fun a y e => by simp at e) ⟨x1, x3, xs, x4.mono (by omega)⟩, fun y hy => ?_, by show 1 ≤ t + 1; omega⟩
    have hy' : y = x := List.mem_singleton.mp hy
    rw [hy', hM]
    omega
  · rw [addTo_snoc]
    by_cases ey : y.2 = x.2
    · rw [if_pos ey]
      obtain ⟨g1, g2, g3, g4⟩ := gsok_front h1
      have hy1 := h2 y (by simp)
      have hs : y.1 + x.1 ≤ ((t + 1 : Nat) : Int) * (2 ^ n : Nat) := by omega
      refine ⟨gsok_snoc g1 (fun a' z e => by show z.2 ≠ x.2; rw [← ey]; exact g2 a' z e) ⟨by show 1 ≤ y.1 + x.1; omega, x3, mi_sm (t := t + 1) (by omega) (by show 0 ≤ y.1 + x.1; omega) hs, x4.mono (by omega)⟩, fun z hz => ?_, by simp only [List.length_append, List.length_cons, List.length_nil] at h3 ⊢; omega⟩
      rcases List.mem_append.mp hz with q | q
      · exact up z (List.mem_append.mpr (.inl q))
      · rw [List.mem_singleton.mp q]
        exact hs
    · rw [if_neg ey]
      refine ⟨gsok_snoc h1 (fun a' z e => by
        have := (List.append_inj' e rfl).2
        cases this
        exact ey) ⟨x1, x3, xs, x4.mono (by omega)⟩, fun z hz => ?_, by simp only [List.length_append, List.length_cons, List.length_nil] at h3 ⊢; omega⟩
      rcases List.mem_append.mp hz with q | q
      · exact up z q
      · rw [List.mem_singleton.mp q, hM]
        omega
theorem mi_fold {n : Nat} : ∀ (gs acc : List (Int × Int)) (t : Nat), t + gs.length ≤ 1000 → (∀ x ∈ gs, 1 ≤ x.1 ∧ Sm n x.1 ∧ 0 ≤ x.2 ∧ Sm (n + 1) x.2) → MI n t acc → MI n (t + gs.length) (gs.foldl addTo acc)
  | [], acc, t, _, _, h => h
  | g :: gs, acc, t, hl, hg, h => by
    have hl' : t + (gs.length + 1) ≤ 1000 := hl
    obtain ⟨g1, g2, g3, g4⟩ := hg g (List.mem_cons_self ..)
    have e := mi_fold gs (addTo acc g) (t + 1) (by omega) (fun x hx => hg x (List.mem_cons_of_mem _ hx)) (mi_step (by omega) h g1 g2 g3 g4)
    have e2 : t + 1 + gs.length = t + (g :: gs).length := by simp; omega
    rw [e2] at e
    exact e
theorem runAfter_ok {n : Nat} {r : List (Int × Int) × Int} {f : Fm} (h : RnOk n r) (hf : f.Ok n) : RnOk (3 * n + 40) (runAfter r f) := by
  have hu := units_ok (RnOk.sm h) hf
  cases f with
  | keep b a =>
    have m := mi_fold (n := n) (moved (.keep b a) r.1) [] 0 (by unfold moved; rw [List.length_map]; have := h.len; omega) (fun x hx => by
      obtain ⟨y, hy, rfl⟩ := List.mem_map.mp hx
      obtain ⟨i, hi⟩ := List.mem_iff_getElem?.mp hy
      obtain ⟨y1, y2, y3, y4, _⟩ := h.gs i y hi
      have := Fm.after_ok hf y2 y4
      exact ⟨y1, y3, this.1, this.2⟩) ⟨(fun i x hx => by simp at hx), (fun x hx => by cases hx), Nat.le_refl _⟩
    obtain ⟨m1, m2, m3⟩ := m
    refine ⟨fun i x hx => ?_, ⟨h.rest.1, h.rest.2.mono (by omega)⟩, ?_⟩
    · obtain ⟨q1, q2, q3, q4, q5⟩ := m1 i x hx
      exact ⟨q1, q2, q3.mono (by omega), q4.mono (by omega), q5⟩
    · have e : (moved (.keep b a) r.1).length = r.1.length := List.length_map ..
      have := h.len
      show (Lx.merged (moved (.keep b a) r.1)).length ≤ 1000
      unfold Lx.merged
      omega
  | lf b a k c =>
    by_cases z : k * units r (.lf b a k c) = 0
    · rw [show runAfter r (.lf b a k c) = ([], 0) from if_pos z]
      exact ⟨fun i x hx => by simp at hx, ⟨by decide, Nat.two_pow_pos _⟩, Nat.zero_le _⟩
    · rw [show runAfter r (.lf b a k c) = ([(k * units r (.lf b a k c), c)], 0) from if_neg z]
      have hp := Int.mul_nonneg (Int.le_of_lt hf.2.2.1) hu.1
      have hs := hf.2.2.2.2.2.2.1.mul hu.2
      exact ⟨gsok_snoc (gs := []) (fun i x hx => by simp at hx) (fun a y e => by simp at e) ⟨by show 1 ≤ k * units r (.lf b a k c); omega, hf.2.2.2.1, hs.mono (by omega), hf.2.2.2.2.2.2.2.mono (by omega)⟩, ⟨(by decide : (0 : Int) ≤ 0), Nat.two_pow_pos _⟩, by show 1 ≤ 1000; decide⟩
  | cr b a k =>
    have hs := hf.2.2.2.2.2.mul hu.2
    exact ⟨fun i x hx => by simp [runAfter] at hx, ⟨Int.mul_nonneg (Int.le_of_lt hf.2.2.1) hu.1, hs.mono (by omega)⟩, Nat.zero_le _⟩
theorem units_nothing {n : Nat} {r : List (Int × Int) × Int} (h : RnSm n r) : (r.1.map fun x => x.1 * (x.2 + 1)).sum + r.2 = units r nothing := by
  have e : moved nothing r.1 = r.1 := by
    unfold moved
    have : ∀ gs : List (Int × Int), (∀ x ∈ gs, 0 ≤ x.2) → gs.map (fun x => (x.1, nothing.after x.2)) = gs := by
      intro gs
      induction gs with
      | nil => intro _; rfl
      | cons g gs ih =>
        intro hg
        have h0 := hg g (List.mem_cons_self ..)
        have e0 : nothing.after g.2 = g.2 := by
          show (if g.2 - 0 > 0 then g.2 - 0 else 0) + 0 = g.2
          have := pp (g.2 - 0)
          omega
        rw [List.map_cons, ih fun x hx => hg x (List.mem_cons_of_mem _ hx), e0]
    exact this r.1 fun x hx => (h.1 x hx).2.1
  unfold units
  rw [e]
  rfl
def RnS (K : PySem.W.Frag) (H : Hp) (v : V) (l : Addr) (g : List (Int × Int) × Int) : Prop := ∃ p xs, v = .ref p ∧ H p = some (.tup [.ref l, .int g.2]) ∧ H l = some (.lst xs) ∧ Prs K H xs g.1
theorem NewRn.s {K : PySem.W.Frag} {H H' : Hp} {v : V} {g : List (Int × Int) × Int} : NewRn K H H' v g → ∃ l, H l = none ∧ RnS K H' v l g := fun ⟨p, l, xs, h1, h2, h3, h4, h5, h6⟩ => ⟨l, h3, p, xs, h1, h4, h5, h6⟩
theorem RnS.same {K : PySem.W.Frag} {H H' : Hp} {v : V} {l : Addr} {g : List (Int × Int) × Int} (s : Same H H') : RnS K H v l g → RnS K H' v l g := fun ⟨p, xs, h1, h2, h3, h4⟩ => ⟨p, xs, h1, s _ _ h2, s _ _ h3, h4.same s⟩
theorem RnS.rn {K : PySem.W.Frag} {H : Hp} {v : V} {l : Addr} {g : List (Int × Int) × Int} : RnS K H v l g → RnAt K H v l g := fun ⟨p, xs, h1, h2, h3, h4⟩ => ⟨p, h1, .inl (.inl h2), xs, .inl (.inl h3), h4⟩
theorem RnS.upd {K : PySem.W.Frag} {H : Hp} {v : V} {l l2 : Addr} {g : List (Int × Int) × Int} {ys : List V} {o : HO} (e : H l2 = some (.lst ys)) (ne : l ≠ l2) : RnS K H v l g → RnS K (upd H l2 o) v l g :=
  fun ⟨p, xs, h1, h2, h3, h4⟩ => ⟨p, xs, h1, by rw [upd_ne (ne_of h2 e (by intro z; cases z))]; exact h2, by rw [upd_ne ne]; exact h3, Prs.lstUpd e h4⟩
theorem RnS.ne {K : PySem.W.Frag} {H : Hp} {v : V} {l p : Addr} {g : List (Int × Int) × Int} (h : RnS K H v l g) (n : H p = none) : l ≠ p := by
  obtain ⟨_, _, _, _, h3, _⟩ := h
  exact ne_of_none h3 n
def rd (g : List (Int × Int) × Int) : PyData := .tuple [.list (pd g.1), .int g.2]
theorem Prs.dq {K : PySem.W.Frag} {H : Hp} : ∀ {vs : List V} {gs : List (Int × Int)}, Prs K H vs gs → DqAll K H vs (pd gs)
  | _, _, .nil => .nil
  | _, _, .cons ⟨p, e, h⟩ t => by
    subst e
    exact .cons (.tup (.inl ⟨_, h⟩) (.inl (.inl h)) (.cons (.int _) (.cons (.int _) .nil))) (Prs.dq t)
theorem RnS.dq {K : PySem.W.Frag} {H : Hp} {v : V} {l : Addr} {g : List (Int × Int) × Int} : RnS K H v l g → Dq K H v (rd g) := fun ⟨p, xs, h1, h2, h3, h4⟩ => by
  subst h1
  exact .tup (.inl ⟨_, h2⟩) (.inl (.inl h2)) (.cons (.lst h3 (Prs.dq h4)) (.cons (.int _) .nil))
def fdt : Fm → PyData
  | .keep b a => .tuple [.str "keep", .int b, .int a]
  | .lf b a k c => .tuple [.str "lf", .int b, .int a, .int k, .int c]
  | .cr b a k => .tuple [.str "cr", .int b, .int a, .int k]
theorem fm_dq {K : PySem.W.Frag} {H : Hp} {p : Addr} {f : Fm} (h : H p = some (.tup f.vs)) : Dq K H (.ref p) (fdt f) := by
  cases f with
  | keep b a => exact .tup (.inl ⟨_, h⟩) (.inl (.inl h)) (.cons (.str _) (.cons (.int _) (.cons (.int _) .nil)))
  | lf b a k c => exact .tup (.inl ⟨_, h⟩) (.inl (.inl h)) (.cons (.str _) (.cons (.int _) (.cons (.int _) (.cons (.int _) (.cons (.int _) .nil)))))
  | cr b a k => exact .tup (.inl ⟨_, h⟩) (.inl (.inl h)) (.cons (.str _) (.cons (.int _) (.cons (.int _) (.cons (.int _) .nil))))
theorem rd_shaped (g : List (Int × Int) × Int) : SeqAt.shaped (rd g) = true := by
  have := pd_depth g.1
  unfold SeqAt.shaped rd
  simp only [PyData.canLay0, PyData.canLayAll0, pd_lay, PyData.depth, PyData.depthAll, Bool.true_and, Bool.and_true]
  exact decide_eq_true (by omega)
theorem pd_wd (gs : List (Int × Int)) : wdAll (pd gs) = true := by
  unfold pd
  induction gs with
  | nil => rfl
  | cons g gs ih => simp only [List.map_cons, wdAll, wd, ih, Bool.and_true, List.length_cons, List.length_nil, Bool.and_self, decide_true]; exact decide_eq_true (by omega)
theorem rd_wd {g : List (Int × Int) × Int} (h : g.1.length ≤ 1000) : wd (rd g) = true := by
  have e : (pd g.1).length = g.1.length := List.length_map ..
  unfold rd
  simp only [wd, wdAll, pd_wd, List.length_cons, List.length_nil, Bool.and_true]
  rw [decide_eq_true (by omega : (pd g.1).length ≤ 5000)]
  simp
theorem rd_depth (g : List (Int × Int) × Int) : (rd g).depth ≤ 3 := by
  have := pd_depth g.1
  unfold rd
  simp only [PyData.depth, PyData.depthAll]
  omega
def shw (g : List (Int × Int) × Int) (f : Fm) : PyData := .list [rd g, fdt f]
theorem sm400 {x : Int} (h : Sm 100 x) : x.natAbs < 2 ^ 400 := Nat.lt_of_lt_of_le h (Nat.pow_le_pow_right (by decide) (by decide))
theorem pd_small : ∀ (gs : List (Int × Int)), (∀ x ∈ gs, Sm 100 x.1 ∧ Sm 100 x.2) → small.smallAll (pd gs) = true
  | [], _ => rfl
  | g :: gs, h => by
    have h1 := h g (List.mem_cons_self ..)
    have ih := pd_small gs fun x hx => h x (List.mem_cons_of_mem _ hx)
    unfold pd at ih ⊢
    simp only [List.map_cons, small.smallAll, small, ih, Bool.and_true]
    rw [decide_eq_true (sm400 h1.1), decide_eq_true (sm400 h1.2)]
    rfl
theorem pd_bulk (gs : List (Int × Int)) : PyData.bulkAll (pd gs) ≤ 20 * gs.length := by
  unfold pd
  induction gs with
  | nil => exact Nat.le_refl _
  | cons g gs ih =>
    simp only [List.map_cons, PyData.bulkAll, PyData.bulk, List.length_cons]
    omega
theorem fdt_small {f : Fm} (h : f.Ok 100) : small (fdt f) = true := by
  cases f with
  | keep b a =>
    obtain ⟨_, _, h1, h2⟩ := h
    simp only [fdt, small, small.smallAll]
    rw [decide_eq_true (sm400 h1), decide_eq_true (sm400 h2)]
    decide
  | lf b a k c =>
    obtain ⟨_, _, _, _, h1, h2, h3, h4⟩ := h
    simp only [fdt, small, small.smallAll]
    rw [decide_eq_true (sm400 h1), decide_eq_true (sm400 h2), decide_eq_true (sm400 h3), decide_eq_true (sm400 h4)]
    decide
  | cr b a k =>
    obtain ⟨_, _, _, h1, h2, h3⟩ := h
    simp only [fdt, small, small.smallAll]
    rw [decide_eq_true (sm400 h1), decide_eq_true (sm400 h2), decide_eq_true (sm400 h3)]
    decide
theorem shw_fit {g : List (Int × Int) × Int} {f : Fm} (h : RnOk 100 g) (hf : f.Ok 100) : Fit (shw g f) := by
  refine fit_small ?_ ?_ ?_
  · have e1 := pd_small g.1 fun x hx => by
      obtain ⟨i, hi⟩ := List.mem_iff_getElem?.mp hx
      exact ⟨(h.gs i x hi).2.2.1, (h.gs i x hi).2.2.2.1⟩
    unfold shw rd
    simp only [small, small.smallAll, e1, fdt_small hf, Bool.and_true, Bool.true_and]
    exact decide_eq_true (sm400 h.rest.2)
  · have e := rd_depth g
    have e2 : (fdt f).depth ≤ 1 := by cases f <;> simp [fdt, PyData.depth, PyData.depthAll]
    unfold shw
    simp only [PyData.depth, PyData.depthAll]
    omega
  · have e := pd_bulk g.1
    have e2 : (fdt f).bulk ≤ 200 := by cases f <;> (simp [fdt, PyData.bulk, PyData.bulkAll]; decide)
    have e3 := h.len
    unfold shw rd
    simp only [PyData.bulk, PyData.bulkAll]
    omega
/-- a def that is called by its name -/
structure Cl (P : Program) (w : World) (K : PySem.W.Frag) (mg : Str → Option Value) (base : Heap) (k : Nat) (nm : Str) (ps : List Str) (sp : Sp) (f : Addr) (fd : FuncData) : Prop where
  G : FnOk P w K mg base CX0 k f fd ps sp
  kp : PySem.W.keepIn K (.ref f) = true
  b : Binds K fd ps []
  g : mg nm = some (.ref f)
theorem upd_keep {H : Hp} {t l b : Addr} {o1 o2 o : HO} (nt : H t = none) (ne : b ≠ l) (h : H b = some o) : upd (upd H t o1) l o2 b = some o := by
  rw [upd_ne ne, upd_ne (ne_of_none h nt)]
  exact h
end Lw
namespace Lw
open PySem PySem.Spec L2 Lx
theorem wh3 : ∀ f : Fm, ¬ (HT.sIx f.vs.length 0 (some 3) = 0 ∧ HT.sIx f.vs.length f.vs.length none = f.vs.length)
  | .keep _ _ => show ¬ (HT.sIx 3 0 (some 3) = 0 ∧ HT.sIx 3 3 none = 3) by decide
  | .lf _ _ _ _ => show ¬ (HT.sIx 5 0 (some 3) = 0 ∧ HT.sIx 5 5 none = 5) by decide
  | .cr _ _ _ => show ¬ (HT.sIx 4 0 (some 3) = 0 ∧ HT.sIx 4 4 none = 4) by decide
theorem vs_len : ∀ f : Fm, f.vs.length ≤ 5
  | .keep _ _ => by show 3 ≤ 5; decide
  | .lf _ _ _ _ => Nat.le_refl 5
  | .cr _ _ _ => by show 4 ≤ 5; decide
def Fm.isKeep : Fm → Bool
  | .keep _ _ => true
  | _ => false
/-- units of one unit -/
def Fm.one : Fm → Fm → Int
  | .lf _ _ _ c, g => g.after c + 1
  | _, _ => 1
theorem nk_k {f : Fm} (h : Fm.isKeep f = false) : ∃ k, f.vs[3]? = some (.int k) := by
  cases f with
  | keep _ _ => cases h
  | lf _ _ k _ => exact ⟨k, rfl⟩
  | cr _ _ k => exact ⟨k, rfl⟩
theorem nk_ok {f : Fm} {n : Nat} {k : Int} (h : Fm.isKeep f = false) (o : f.Ok n) (e : f.vs[3]? = some (.int k)) : 0 < k ∧ Sm n k := by
  cases f with
  | keep _ _ => cases h
  | lf _ _ _ _ => cases e; exact ⟨o.2.2.1, o.2.2.2.2.2.2.1⟩
  | cr _ _ _ => cases e; exact ⟨o.2.2.1, o.2.2.2.2.2⟩
theorem nk_pos {f : Fm} {n : Nat} (h : Fm.isKeep f = false) (o : f.Ok n) : 0 < n := by
  obtain ⟨k, e⟩ := nk_k h
  have h1 := nk_ok h o e
  have h2 : k.natAbs < 2 ^ n := h1.2
  have h3 := h1.1
  rcases Nat.eq_zero_or_pos n with z | z
  · subst z
    omega
  · exact z
theorem one_ok {f g : Fm} {n : Nat} (h : Fm.isKeep f = false) (o : f.Ok n) (og : g.Ok n) : 0 < Fm.one f g ∧ Sm (n + 2) (Fm.one f g) := by
  have h4 : 2 ^ 2 ≤ 2 ^ (n + 2) := Nat.pow_le_pow_right (by decide) (by omega)
  cases f with
  | keep _ _ => cases h
  | lf b a k c =>
    have e := Fm.after_ok og o.2.2.2.1 o.2.2.2.2.2.2.2
    have e2 : 2 ^ (n + 2) = 2 ^ (n + 1) * 2 := Nat.pow_succ 2 (n + 1)
    have e3 : (g.after c).natAbs < 2 ^ (n + 1) := e.2
    have e4 := e.1
    have e5 : 1 ≤ 2 ^ (n + 1) := Nat.one_le_two_pow
    refine ⟨by show 0 < g.after c + 1; omega, ?_⟩
    show (g.after c + 1).natAbs < 2 ^ (n + 2)
    rw [e2]
    generalize 2 ^ (n + 1) = M at *
    omega
  | cr _ _ _ => exact ⟨(by decide : (0 : Int) < 1), Nat.lt_of_lt_of_le (by decide : (1 : Int).natAbs < 2 ^ 2) h4⟩
theorem wh4 : ∀ f : Fm, ¬ (HT.sIx f.vs.length 0 (some 4) = 0 ∧ HT.sIx f.vs.length f.vs.length none = f.vs.length)
  | .keep _ _ => show ¬ (HT.sIx 3 0 (some 4) = 0 ∧ HT.sIx 3 3 none = 3) by decide
  | .lf _ _ _ _ => show ¬ (HT.sIx 5 0 (some 4) = 0 ∧ HT.sIx 5 5 none = 5) by decide
  | .cr _ _ _ => show ¬ (HT.sIx 4 0 (some 4) = 0 ∧ HT.sIx 4 4 none = 4) by decide
/-- the run that a form which keeps no groups makes of so many units -/
def ofUnits (t : Int) : Fm → List (Int × Int) × Int
  | .keep _ _ => ([], 0)
  | .lf _ _ k c => if k * t = 0 then ([], 0) else ([(k * t, c)], 0)
  | .cr _ _ k => ([], k * t)
theorem runAfter_units {r : List (Int × Int) × Int} {f : Fm} (h : Fm.isKeep f = false) : runAfter r f = ofUnits (units r f) f := by
  cases f with
  | keep _ _ => cases h
  | lf _ _ _ _ => rfl
  | cr _ _ _ => rfl
/-- the lengths of forms by their words -/
structure LenT (K : PySem.W.Frag) (w : World) (mg : Str → Option Value) (aL : Addr) : Prop where
  g : mg "FORM_LENGTHS" = some (.ref aL)
  d : ∃ es n, KDict K w aL es n
  keep : ∃ t, PySem.W.nsIn K aL "keep" = some (some (.int 3 t))
  lf : ∃ t, PySem.W.nsIn K aL "lf" = some (some (.int 5 t))
  cr : ∃ t, PySem.W.nsIn K aL "cr" = some (some (.int 4 t))
theorem LenT.at {K : PySem.W.Frag} {w : World} {mg : Str → Option Value} {aL : Addr} (T : LenT K w mg aL) : ∀ f : Fm, ∃ t, PySem.W.nsIn K aL f.nm = some (some (.int f.vs.length t))
  | .keep _ _ => T.keep
  | .lf _ _ _ _ => T.lf
  | .cr _ _ _ => T.cr
theorem cut1 (f : Fm) : cutV f.vs (some 1) none = f.nums.map V.int := by cases f <;> rfl
theorem wh : ∀ f : Fm, ¬ (HT.sIx f.vs.length 0 (some 1) = 0 ∧ HT.sIx f.vs.length f.vs.length none = f.vs.length)
  | .keep _ _ => show ¬ (HT.sIx 3 0 (some 1) = 0 ∧ HT.sIx 3 3 none = 3) by decide
  | .lf _ _ _ _ => show ¬ (HT.sIx 5 0 (some 1) = 0 ∧ HT.sIx 5 5 none = 5) by decide
  | .cr _ _ _ => show ¬ (HT.sIx 4 0 (some 1) = 0 ∧ HT.sIx 4 4 none = 4) by decide
theorem np : ∀ f : Fm, 0 < f.nums.length
  | .keep _ _ => Nat.succ_pos _
  | .lf _ _ _ _ => Nat.succ_pos _
  | .cr _ _ _ => Nat.succ_pos _
theorem nums0 {f : Fm} {n : Nat} (h : f.Ok n) : ∀ x ∈ f.nums, 0 ≤ x := by
  intro x hx
  cases f with
  | keep b a =>
    obtain ⟨h1, h2, _⟩ := h
    simp only [Fm.nums, List.mem_cons, List.not_mem_nil, or_false] at hx
    rcases hx with rfl | rfl <;> assumption
  | lf b a k c =>
    obtain ⟨h1, h2, h3, h4, _⟩ := h
    simp only [Fm.nums, List.mem_cons, List.not_mem_nil, or_false] at hx
    rcases hx with rfl | rfl | rfl | rfl
    · exact h1
    · exact h2
    · omega
    · exact h4
  | cr b a k =>
    obtain ⟨h1, h2, h3, _⟩ := h
    simp only [Fm.nums, List.mem_cons, List.not_mem_nil, or_false] at hx
    rcases hx with rfl | rfl | rfl
    · exact h1
    · exact h2
    · omega
end Lw
namespace Lw
open PySem PySem.Spec L2 Lx
/-! ### where characters go: the groups written out one by one -/
def expand (gs : List (Int × Int)) : List Int := gs.flatMap fun x => List.replicate x.1.toNat x.2
/-- the returns of a group with j of them that are left -/
def lft (f : Fm) (j : Int) : Int := if j - f.b > 0 then j - f.b else 0
theorem after_lft (f : Fm) (j : Int) : f.after j = lft f j + f.a := rfl
theorem lft_0 (f : Fm) (j : Int) : 0 ≤ lft f j := (pp _).1
theorem lft_le {f : Fm} {j : Int} (h : 0 ≤ j) (hb : 0 ≤ f.b) : lft f j ≤ j := by
  unfold lft
  split <;> omega
/-- how many units stem from the first x characters -/
def U (f : Fm) : List Int → Int → Int
  | [], x => x
  | j :: js, x => if x ≤ j then min x (lft f j) else f.after j + 1 + U f js (x - j - 1)
def szL (js : List Int) : Int := (js.map fun j => j + 1).sum
def unL (f : Fm) (js : List Int) : Int := (js.map fun j => f.after j + 1).sum
theorem szL_cons (j : Int) (js : List Int) : szL (j :: js) = j + 1 + szL js := by unfold szL; rw [List.map_cons, List.sum_cons]
theorem unL_cons (f : Fm) (j : Int) (js : List Int) : unL f (j :: js) = f.after j + 1 + unL f js := by unfold unL; rw [List.map_cons, List.sum_cons]
theorem szL_app (a b : List Int) : szL (a ++ b) = szL a + szL b := by unfold szL; rw [List.map_append, List.sum_append]
theorem unL_app (f : Fm) (a b : List Int) : unL f (a ++ b) = unL f a + unL f b := by unfold unL; rw [List.map_append, List.sum_append]
theorem szL_0 : ∀ {js : List Int}, (∀ j ∈ js, 0 ≤ j) → 0 ≤ szL js
  | [], _ => Int.le_refl _
  | j :: js, h => by
    rw [szL_cons]
    have := h j (List.mem_cons_self ..)
    have := szL_0 fun x hx => h x (List.mem_cons_of_mem _ hx)
    omega
theorem unL_0 {f : Fm} (ha : 0 ≤ f.a) : ∀ {js : List Int}, 0 ≤ unL f js
  | [] => Int.le_refl _
  | j :: js => by
    rw [unL_cons, after_lft]
    have := lft_0 f j
    have := unL_0 ha (js := js)
    omega
theorem U_app {f : Fm} {bs : List Int} {y : Int} (hy : 0 ≤ y) : ∀ {as : List Int}, (∀ j ∈ as, 0 ≤ j) → U f (as ++ bs) (szL as + y) = unL f as + U f bs y
  | [], _ => by
    show U f bs (0 + y) = 0 + U f bs y
    rw [Int.zero_add, Int.zero_add]
  | j :: as, h => by
    have h0 := szL_0 fun x hx => h x (List.mem_cons_of_mem _ hx)
    rw [szL_cons, unL_cons, List.cons_append]
    show (if j + 1 + szL as + y ≤ j then _ else f.after j + 1 + U f (as ++ bs) (j + 1 + szL as + y - j - 1)) = _
    rw [if_neg (by omega), show j + 1 + szL as + y - j - 1 = szL as + y by omega, U_app hy fun x hx => h x (List.mem_cons_of_mem _ hx)]
    omega
theorem U_end {f : Fm} {js : List Int} {y : Int} (hy : 0 ≤ y) (h : ∀ j ∈ js, 0 ≤ j) : U f js (szL js + y) = unL f js + y := by
  have := U_app (f := f) (bs := []) hy h
  rw [List.append_nil] at this
  exact this
theorem U_nn {f : Fm} (ha : 0 ≤ f.a) : ∀ {js : List Int} {x : Int}, 0 ≤ x → 0 ≤ U f js x
  | [], x, h => h
  | j :: js, x, h => by
    show 0 ≤ if x ≤ j then min x (lft f j) else f.after j + 1 + U f js (x - j - 1)
    have := lft_0 f j
    by_cases c : x ≤ j
    · rw [if_pos c]
      omega
    · rw [if_neg c, after_lft]
      have := U_nn ha (js := js) (x := x - j - 1) (by omega)
      omega
theorem U_mono {f : Fm} (ha : 0 ≤ f.a) : ∀ {js : List Int} {x y : Int}, 0 ≤ x → x ≤ y → U f js x ≤ U f js y
  | [], x, y, _, h => h
  | j :: js, x, y, h0, h => by
    show (if x ≤ j then min x (lft f j) else f.after j + 1 + U f js (x - j - 1)) ≤ (if y ≤ j then min y (lft f j) else f.after j + 1 + U f js (y - j - 1))
    by_cases c : y ≤ j
    · rw [if_pos c, if_pos (by omega)]
      omega
    · rw [if_neg c]
      by_cases d : x ≤ j
      · rw [if_pos d, after_lft]
        have := U_nn ha (js := js) (x := y - j - 1) (by omega)
        omega
      · rw [if_neg d]
        have := U_mono ha (js := js) (x := x - j - 1) (y := y - j - 1) (by omega) (by omega)
        omega
theorem U_zero {f : Fm} : ∀ {js : List Int}, (∀ j ∈ js, 0 ≤ j) → U f js 0 = 0
  | [], _ => rfl
  | j :: js, h => by
    show (if (0 : Int) ≤ j then min 0 (lft f j) else _) = 0
    rw [if_pos (h j (List.mem_cons_self ..))]
    have := lft_0 f j
    omega
/-- one form after the other that keeps the groups -/
theorem U_both {b a : Int} {g : Fm} (hb : 0 ≤ b) (ha : 0 ≤ a) (gb : 0 ≤ g.b) : ∀ {js : List Int} {x : Int}, (∀ j ∈ js, 0 ≤ j) → 0 ≤ x →
    U ((Fm.keep b a).both g) js x = U g (js.map (Fm.keep b a).after) (U (Fm.keep b a) js x)
  | [], x, _, _ => rfl
  | j :: js, x, h, h0 => by
    have hj := h j (List.mem_cons_self ..)
    have hab := after_both b a g j
    have eb : ((Fm.keep b a).both g).b = b + (if g.b - a > 0 then g.b - a else 0) := by cases g <;> rfl
    show (if x ≤ j then min x (lft ((Fm.keep b a).both g) j) else ((Fm.keep b a).both g).after j + 1 + U ((Fm.keep b a).both g) js (x - j - 1)) =
      (if U (Fm.keep b a) (j :: js) x ≤ (Fm.keep b a).after j then min (U (Fm.keep b a) (j :: js) x) (lft g ((Fm.keep b a).after j)) else g.after ((Fm.keep b a).after j) + 1 + U g (js.map (Fm.keep b a).after) (U (Fm.keep b a) (j :: js) x - (Fm.keep b a).after j - 1))
    by_cases c : x ≤ j
    · have e : U (Fm.keep b a) (j :: js) x = min x (lft (Fm.keep b a) j) := if_pos c
      rw [e, if_pos c]
      have l0 := lft_0 (Fm.keep b a) j
      rw [if_pos (by rw [after_lft]; show _ ≤ _ + a; omega)]
      have e1 : lft ((Fm.keep b a).both g) j = (if j - (b + (if g.b - a > 0 then g.b - a else 0)) > 0 then j - (b + (if g.b - a > 0 then g.b - a else 0)) else 0) := by unfold lft; rw [eb]
      have e2 : lft g ((Fm.keep b a).after j) = (if (if j - b > 0 then j - b else 0) + a - g.b > 0 then (if j - b > 0 then j - b else 0) + a - g.b else 0) := rfl
      have e3 : lft (Fm.keep b a) j = (if j - b > 0 then j - b else 0) := rfl
      rw [e1, e2, e3]
      have p1 := pp (j - (b + if g.b - a > 0 then g.b - a else 0))
      have p2 := pp (g.b - a)
      have p3 := pp (j - b)
      have p4 := pp ((if j - b > 0 then j - b else 0) + a - g.b)
      omega
    · have e : U (Fm.keep b a) (j :: js) x = (Fm.keep b a).after j + 1 + U (Fm.keep b a) js (x - j - 1) := if_neg c
      have n0 := U_nn (f := Fm.keep b a) ha (js := js) (x := x - j - 1) (by omega)
      rw [e, if_neg c, if_neg (by omega), hab, show (Fm.keep b a).after j + 1 + U (Fm.keep b a) js (x - j - 1) - (Fm.keep b a).after j - 1 = U (Fm.keep b a) js (x - j - 1) by omega,
        U_both hb ha gb (fun x hx => h x (List.mem_cons_of_mem _ hx)) (by omega : 0 ≤ x - j - 1)]
/-! ### groups and what they are written out -/
theorem expand_app (a b : List (Int × Int)) : expand (a ++ b) = expand a ++ expand b := List.flatMap_append ..
theorem expand_mem {gs : List (Int × Int)} {j : Int} (h : j ∈ expand gs) : ∃ x ∈ gs, x.2 = j := by
  obtain ⟨x, hx, hj⟩ := List.mem_flatMap.mp h
  exact ⟨x, hx, (List.mem_replicate.mp hj).2.symm⟩
theorem sum_rep (n : Nat) (y : Int) : (List.replicate n y).sum = n * y := by
  induction n with
  | zero => simp
  | succ n ih =>
    rw [List.replicate_succ, List.sum_cons, ih, Int.natCast_add, Int.add_mul]
    omega
theorem szL_expand : ∀ {gs : List (Int × Int)}, (∀ x ∈ gs, 0 ≤ x.1) → szL (expand gs) = total gs
  | [], _ => rfl
  | x :: gs, h => by
    have h0 := h x (List.mem_cons_self ..)
    have ih := szL_expand fun y hy => h y (List.mem_cons_of_mem _ hy)
    have e : expand (x :: gs) = List.replicate x.1.toNat x.2 ++ expand gs := rfl
    rw [e, szL_app, ih]
    unfold szL total
    rw [List.map_replicate, sum_rep, List.map_cons, List.sum_cons, Int.toNat_of_nonneg h0]
theorem unL_expand {f : Fm} : ∀ {gs : List (Int × Int)}, (∀ x ∈ gs, 0 ≤ x.1) → unL f (expand gs) = total (moved f gs)
  | [], _ => rfl
  | x :: gs, h => by
    have h0 := h x (List.mem_cons_self ..)
    have ih := unL_expand (f := f) fun y hy => h y (List.mem_cons_of_mem _ hy)
    have e : expand (x :: gs) = List.replicate x.1.toNat x.2 ++ expand gs := rfl
    have e2 : moved f (x :: gs) = (x.1, f.after x.2) :: moved f gs := rfl
    rw [e, unL_app, ih, e2]
    unfold unL total
    rw [List.map_replicate, sum_rep, List.map_cons, List.sum_cons, Int.toNat_of_nonneg h0]
theorem expand_addTo {acc : List (Int × Int)} {x : Int × Int} (ha : ∀ y ∈ acc, 0 ≤ y.1) (hx : 0 ≤ x.1) : expand (addTo acc x) = expand acc ++ List.replicate x.1.toNat x.2 := by
  have one : ∀ y : Int × Int, expand [y] = List.replicate y.1.toNat y.2 := fun y => by show List.replicate _ _ ++ [] = _; rw [List.append_nil]
  rcases snoc_or acc with rfl | ⟨a, y, rfl⟩
  · rw [addTo_nil, one]
    rfl
  · have hy : 0 ≤ y.1 := ha y (by simp)
    rw [addTo_snoc]
    by_cases c : y.2 = x.2
    · rw [if_pos c, expand_app, expand_app, one, one, List.append_assoc]
      congr 1
      rw [c, List.replicate_append_replicate]
      show List.replicate (y.1 + x.1).toNat x.2 = _
      congr 1
      omega
    · rw [if_neg c, expand_app, one]
theorem expand_fold : ∀ (gs acc : List (Int × Int)), (∀ y ∈ acc, 0 ≤ y.1) → (∀ y ∈ gs, 0 ≤ y.1) → expand (gs.foldl addTo acc) = expand acc ++ expand gs
  | [], acc, _, _ => by show expand acc = expand acc ++ []; rw [List.append_nil]
  | x :: gs, acc, ha, hg => by
    have hx := hg x (List.mem_cons_self ..)
    rw [List.foldl_cons, expand_fold gs (addTo acc x) (fun y hy => ?_) fun y hy => hg y (List.mem_cons_of_mem _ hy), expand_addTo ha hx, List.append_assoc]
    · rfl
    · rcases snoc_or acc with rfl | ⟨a, z, rfl⟩
      · rw [addTo_nil] at hy
        rw [List.mem_singleton.mp hy]
        exact hx
      · have hz : 0 ≤ z.1 := ha z (by simp)
        rw [addTo_snoc] at hy
        by_cases c : z.2 = x.2
        · rw [if_pos c] at hy
          rcases List.mem_append.mp hy with q | q
          · exact ha y (List.mem_append.mpr (.inl q))
          · rw [List.mem_singleton.mp q]
            show 0 ≤ z.1 + x.1
            omega
        · rw [if_neg c] at hy
          rcases List.mem_append.mp hy with q | q
          · exact ha y q
          · rw [List.mem_singleton.mp q]
            exact hx
theorem expand_merged {gs : List (Int × Int)} (h : ∀ y ∈ gs, 0 ≤ y.1) : expand (Lx.merged gs) = expand gs := expand_fold gs [] (fun y hy => by cases hy) h
theorem expand_moved (f : Fm) : ∀ gs : List (Int × Int), expand (moved f gs) = (expand gs).map f.after
  | [] => rfl
  | x :: gs => by
    have e : expand (x :: gs) = List.replicate x.1.toNat x.2 ++ expand gs := rfl
    have e2 : moved f (x :: gs) = (x.1, f.after x.2) :: moved f gs := rfl
    have e3 : expand ((x.1, f.after x.2) :: moved f gs) = List.replicate x.1.toNat (f.after x.2) ++ expand (moved f gs) := rfl
    rw [e2, e3, e, List.map_append, List.map_replicate, expand_moved f gs]
theorem expand_at {gs : List (Int × Int)} {at' : Nat} {x : Int × Int} {n : Nat} (h : gs[at']? = some x) (hn : n < x.1.toNat) : ∃ rest, expand gs = expand (gs.take at') ++ List.replicate n x.2 ++ (x.2 :: rest) ∧ ∀ j ∈ rest, j ∈ expand gs := by
  have hl := (List.getElem?_eq_some_iff.mp h).1
  have e0 : gs = gs.take at' ++ x :: gs.drop (at' + 1) := by
    have e1 : gs.drop at' = x :: gs.drop (at' + 1) := by
      rw [List.drop_eq_getElem_cons hl]
      congr 1
      exact (List.getElem?_eq_some_iff.mp h).2
    rw [← e1, List.take_append_drop]
  have e2 : expand gs = expand (gs.take at') ++ (List.replicate x.1.toNat x.2 ++ expand (gs.drop (at' + 1))) := by
    conv => lhs; rw [e0]
    rw [expand_app]
    rfl
  have e3 : List.replicate x.1.toNat x.2 = List.replicate n x.2 ++ x.2 :: List.replicate (x.1.toNat - n - 1) x.2 := by
    rw [← List.replicate_succ, List.replicate_append_replicate]
    congr 1
    omega
  refine ⟨List.replicate (x.1.toNat - n - 1) x.2 ++ expand (gs.drop (at' + 1)), ?_, fun j hj => ?_⟩
  · rw [e2, e3]
    simp [List.append_assoc]
  · rw [e2, e3]
    rcases List.mem_append.mp hj with q | q
    · simp only [List.mem_append, List.mem_cons]
      exact .inr (.inl (.inr (.inr q)))
    · simp only [List.mem_append, List.mem_cons]
      exact .inr (.inr q)
/-- units before a place of a group -/
theorem U_at {f : Fm} {gs : List (Int × Int)} {at' : Nat} {x : Int × Int} {n : Int} (h : gs[at']? = some x) (hg : ∀ y ∈ gs, 0 ≤ y.1 ∧ 0 ≤ y.2) (n0 : 0 ≤ n) (hn : n < x.1) :
    (∀ y, 0 ≤ y → y ≤ x.2 → U f (expand gs) (total (gs.take at') + n * (x.2 + 1) + y) = total (moved f (gs.take at')) + n * (f.after x.2 + 1) + min y (lft f x.2)) ∧
    U f (expand gs) (total (gs.take at') + n * (x.2 + 1) + x.2 + 1) = total (moved f (gs.take at')) + n * (f.after x.2 + 1) + (f.after x.2 + 1) := by
  have hx := hg x (List.mem_of_getElem? h)
  obtain ⟨rest, e, hr⟩ := expand_at (n := n.toNat) h (by omega)
  have hnn : ((n.toNat : Nat) : Int) = n := Int.toNat_of_nonneg n0
  have t1 : ∀ y ∈ gs.take at', 0 ≤ y.1 := fun y hy => (hg y (List.mem_of_mem_take hy)).1
  have hpos : ∀ j ∈ expand (gs.take at') ++ List.replicate n.toNat x.2, 0 ≤ j := fun j hj => by
    rcases List.mem_append.mp hj with q | q
    · obtain ⟨y, hy, rfl⟩ := expand_mem q
      exact (hg y (List.mem_of_mem_take hy)).2
    · rw [(List.mem_replicate.mp q).2]
      exact hx.2
  have hrest : ∀ j ∈ rest, 0 ≤ j := fun j hj => by
    obtain ⟨y, hy, rfl⟩ := expand_mem (hr j hj)
    exact (hg y hy).2
  have s1 : szL (expand (gs.take at') ++ List.replicate n.toNat x.2) = total (gs.take at') + n * (x.2 + 1) := by
    rw [szL_app, szL_expand t1]
    unfold szL
    rw [List.map_replicate, sum_rep, hnn]
  have u1 : unL f (expand (gs.take at') ++ List.replicate n.toNat x.2) = total (moved f (gs.take at')) + n * (f.after x.2 + 1) := by
    rw [unL_app, unL_expand t1]
    unfold unL
    rw [List.map_replicate, sum_rep, hnn]
  constructor
  · intro y y0 y1
    rw [e, ← s1, U_app y0 hpos, u1]
    show _ + (if y ≤ x.2 then min y (lft f x.2) else _) = _
    rw [if_pos y1]
  · rw [e, ← s1, Int.add_assoc, U_app (by omega) hpos, u1]
    show _ + (if x.2 + 1 ≤ x.2 then _ else f.after x.2 + 1 + U f rest (x.2 + 1 - x.2 - 1)) = _
    rw [if_neg (by omega), show x.2 + 1 - x.2 - 1 = 0 by omega, U_zero hrest, Int.add_zero]
theorem U_rest {f : Fm} {gs : List (Int × Int)} {y : Int} (hg : ∀ y ∈ gs, 0 ≤ y.1 ∧ 0 ≤ y.2) (y0 : 0 ≤ y) : U f (expand gs) (total gs + y) = total (moved f gs) + y := by
  have h1 : ∀ x ∈ gs, 0 ≤ x.1 := fun x hx => (hg x hx).1
  rw [← szL_expand h1, ← unL_expand h1]
  refine U_end y0 fun j hj => ?_
  obtain ⟨z, hz, rfl⟩ := expand_mem hj
  exact (hg z hz).2
end Lw
namespace Lw
open PySem PySem.Spec L2 Lx
def width : Fm → Int
  | .keep _ _ => 1
  | .lf _ _ k c => k * (c + 1)
  | .cr _ _ k => k
def size1 (r : List (Int × Int) × Int) : Int := total r.1 + r.2
theorem U_ba {f g : Fm} (hb : f.b = g.b) (ha : f.a = g.a) : ∀ (js : List Int) (x : Int), U f js x = U g js x
  | [], x => rfl
  | j :: js, x => by
    have e1 : lft f j = lft g j := by unfold lft; rw [hb]
    have e2 : f.after j = g.after j := by rw [after_lft, after_lft, e1, ha]
    show (if x ≤ j then min x (lft f j) else f.after j + 1 + U f js (x - j - 1)) = (if x ≤ j then min x (lft g j) else g.after j + 1 + U g js (x - j - 1))
    rw [e1, e2, U_ba hb ha js]
theorem U_rep {f : Fm} {c : Int} (hc : 0 ≤ c) {n N : Nat} (h : n ≤ N) : U f (List.replicate N c) ((n : Int) * (c + 1)) = n * (f.after c + 1) := by
  have e : List.replicate N c = List.replicate n c ++ List.replicate (N - n) c := by
    rw [List.replicate_append_replicate]
    congr 1
    omega
  have hp : ∀ k : Nat, ∀ j ∈ List.replicate k c, 0 ≤ j := fun k j hj => by
    rw [(List.mem_replicate.mp hj).2]
    exact hc
  have s1 : szL (List.replicate n c) = (n : Int) * (c + 1) := by unfold szL; rw [List.map_replicate, sum_rep]
  have u1 : unL f (List.replicate n c) = (n : Int) * (f.after c + 1) := by unfold unL; rw [List.map_replicate, sum_rep]
  have h0 := U_app (f := f) (bs := List.replicate (N - n) c) (Int.le_refl 0) (hp n)
  rw [s1, u1, U_zero (hp _), Int.add_zero, Int.add_zero, ← e] at h0
  exact h0
theorem expand_lf {r : List (Int × Int) × Int} {b a k c : Int} : expand (runAfter r (.lf b a k c)).1 = List.replicate (k * units r (.lf b a k c)).toNat c := by
  show expand (if k * units r (.lf b a k c) = 0 then (([] : List (Int × Int)), (0 : Int)) else ([(k * units r (.lf b a k c), c)], 0)).1 = _
  by_cases z : k * units r (.lf b a k c) = 0
  · rw [if_pos z, z]
    rfl
  · rw [if_neg z]
    show List.replicate _ _ ++ [] = _
    rw [List.append_nil]
theorem pos_js {n : Nat} {r : List (Int × Int) × Int} (h : RnOk n r) : ∀ j ∈ expand r.1, 0 ≤ j := fun j hj => by
  obtain ⟨z, hz, rfl⟩ := expand_mem hj
  exact ((RnOk.sm h).1 z hz).2.1
theorem size_U {n : Nat} {f : Fm} {r : List (Int × Int) × Int} (h : RnOk n r) : U f (expand r.1) (size1 r) = units r f := U_rest (fun y hy => ⟨((RnOk.sm h).1 y hy).1, ((RnOk.sm h).1 y hy).2.1⟩) h.rest.1
/-- one form after the other: the places go one way -/
theorem comp {n : Nat} {r : List (Int × Int) × Int} {f g : Fm} (h : RnOk n r) (hf : f.Ok n) (hg : g.Ok n) {p : Int} (h0 : 0 ≤ p) (h1 : p ≤ size1 r) :
    width (f.both g) * U (f.both g) (expand r.1) p = width g * U g (expand (runAfter r f).1) (width f * U f (expand r.1) p) := by
  have hu0 := U_nn (f := f) hf.a0.1 (js := expand r.1) h0
  have hu1 := U_mono (f := f) hf.a0.1 (js := expand r.1) h0 h1
  rw [size_U h] at hu1
  cases f with
  | keep b a =>
    have e1 : width ((Fm.keep b a).both g) = width g := by cases g <;> rfl
    have e2 : expand (runAfter r (.keep b a)).1 = (expand r.1).map (Fm.keep b a).after := by
      show expand (Lx.merged (moved (.keep b a) r.1)) = _
      rw [expand_merged fun y hy => ?_, expand_moved]
      obtain ⟨x, hx, rfl⟩ := List.mem_map.mp hy
      exact ((RnOk.sm h).1 x hx).1
    rw [e1, e2, U_both hf.1 hf.2.1 hg.b0.1 (pos_js h) h0]
    show _ = width g * U g _ (1 * U (Fm.keep b a) (expand r.1) p)
    rw [Int.one_mul]
  | lf b a k c =>
    rw [expand_lf]
    generalize hu : U (Fm.lf b a k c) (expand r.1) p = u at hu0 hu1
    have hk := hf.2.2.1
    have hc := hf.2.2.2.1
    have hku0 : 0 ≤ k * u := Int.mul_nonneg (Int.le_of_lt hk) hu0
    have hku1 : k * u ≤ k * units r (.lf b a k c) := Int.mul_le_mul_of_nonneg_left hu1 (Int.le_of_lt hk)
    have e : width (Fm.lf b a k c) * u = ((k * u).toNat : Int) * (c + 1) := by
      show k * (c + 1) * u = _
      rw [Int.toNat_of_nonneg hku0, Int.mul_right_comm]
    rw [e, U_rep hc (by omega), Int.toNat_of_nonneg hku0]
    cases g with
    | keep b' a' =>
      have e2 : U ((Fm.lf b a k c).both (.keep b' a')) (expand r.1) p = u := by rw [← hu]; exact U_ba (f := (Fm.lf b a k c).both (.keep b' a')) (g := Fm.lf b a k c) rfl rfl _ _
      rw [e2]
      show k * (Fm.after (.keep b' a') c + 1) * u = 1 * (k * u * (Fm.after (.keep b' a') c + 1))
      rw [Int.one_mul, Int.mul_right_comm]
    | lf b' a' k' c' =>
      have e2 : U ((Fm.lf b a k c).both (.lf b' a' k' c')) (expand r.1) p = u := by rw [← hu]; exact U_ba (f := (Fm.lf b a k c).both (.lf b' a' k' c')) (g := Fm.lf b a k c) rfl rfl _ _
      rw [e2]
      show k * (Fm.after (.lf b' a' k' c') c + 1) * k' * (c' + 1) * u = k' * (c' + 1) * (k * u * (Fm.after (.lf b' a' k' c') c + 1))
      generalize Fm.after (.lf b' a' k' c') c + 1 = A
      generalize c' + 1 = C
      simp only [Int.mul_comm, Int.mul_left_comm, Int.mul_assoc]
    | cr b' a' k' =>
      have e2 : U ((Fm.lf b a k c).both (.cr b' a' k')) (expand r.1) p = u := by rw [← hu]; exact U_ba (f := (Fm.lf b a k c).both (.cr b' a' k')) (g := Fm.lf b a k c) rfl rfl _ _
      rw [e2]
      show k * (Fm.after (.cr b' a' k') c + 1) * k' * u = k' * (k * u * (Fm.after (.cr b' a' k') c + 1))
      generalize Fm.after (.cr b' a' k') c + 1 = A
      simp only [Int.mul_comm, Int.mul_left_comm, Int.mul_assoc]
  | cr b a k =>
    generalize hu : U (Fm.cr b a k) (expand r.1) p = u at hu0 hu1
    show _ = width g * (k * u)
    cases g with
    | keep b' a' =>
      have e2 : U ((Fm.cr b a k).both (.keep b' a')) (expand r.1) p = u := by rw [← hu]; exact U_ba (f := (Fm.cr b a k).both (.keep b' a')) (g := Fm.cr b a k) rfl rfl _ _
      rw [e2]
      show k * u = 1 * (k * u)
      rw [Int.one_mul]
    | lf b' a' k' c' =>
      have e2 : U ((Fm.cr b a k).both (.lf b' a' k' c')) (expand r.1) p = u := by rw [← hu]; exact U_ba (f := (Fm.cr b a k).both (.lf b' a' k' c')) (g := Fm.cr b a k) rfl rfl _ _
      rw [e2]
      show k * 1 * k' * (c' + 1) * u = k' * (c' + 1) * (k * u)
      generalize c' + 1 = C
      simp only [Int.mul_comm, Int.mul_left_comm, Int.mul_assoc, Int.mul_one, Int.one_mul]
    | cr b' a' k' =>
      have e2 : U ((Fm.cr b a k).both (.cr b' a' k')) (expand r.1) p = u := by rw [← hu]; exact U_ba (f := (Fm.cr b a k).both (.cr b' a' k')) (g := Fm.cr b a k) rfl rfl _ _
      rw [e2]
      show k * 1 * k' * u = k' * (k * u)
      simp only [Int.mul_comm, Int.mul_left_comm, Int.mul_assoc, Int.mul_one, Int.one_mul]
theorem U_lt {f : Fm} (ha : 0 ≤ f.a) {js : List Int} {W : Int} (hW : 0 < W) {p p' : Int} (h0 : 0 ≤ p) (h : W * U f js p' < W * U f js p) : p' < p := by
  refine Int.lt_of_not_ge fun hh => ?_
  have := U_mono ha (js := js) h0 hh
  have := Int.mul_le_mul_of_nonneg_left this (Int.le_of_lt hW)
  omega
theorem tra_uniq {f : Fm} (ha : 0 ≤ f.a) {js : List Int} {W : Int} (hW : 0 < W) {q p p' : Int} (h0 : 0 ≤ p) (h0' : 0 ≤ p') (h1 : W * U f js p ≤ q) (h2 : q < W * U f js (p + 1)) (h1' : W * U f js p' ≤ q) (h2' : q < W * U f js (p' + 1)) : p = p' := by
  have a := U_lt (js := js) ha hW (p := p + 1) (p' := p') (by omega) (by omega)
  have b := U_lt (js := js) ha hW (p := p' + 1) (p' := p) (by omega) (by omega)
  omega
end Lw
namespace Lx
open PySem PySem.Spec L2
/-! ### data that repr can write -/
/-- ints below 2 ^ 400, texts of plain signs -/
def smallB (b : Nat) : PyData → Bool
  | .none | .bool _ => true
  | .int i => decide (i.natAbs < 2 ^ b)
  | .str x => x.cps.toList.all fun c => decide (c < 128)
  | .list xs | .tuple xs => smallAll xs
  | .dict _ => false
where smallAll : List PyData → Bool
  | [] => true
  | x :: xs => smallB b x && smallAll xs
theorem intB_log {b : Nat} (h0 : 0 < b) {i : Int} (h : i.natAbs < 2 ^ b) : i.natAbs.log2 < b := PySem.Flt.log2_lt_of h0 h
theorem intB_shown {b : Nat} (h0 : 0 < b) {i : Int} (h : i.natAbs < 2 ^ b) : (PyData.shown (.int i)).length ≤ b + 1 := by
  have e := int_text_length_le (k := b) h0 (intB_log h0 h)
  show (Str.ofString (toString i)).length ≤ b + 1
  rw [ofString_length]
  omega
mutual
theorem smallB_can {b : Nat} (h0 : 0 < b) (h1 : b ≤ 1900) : ∀ d : PyData, smallB b d = true → d.showable = true
  | .none, _ => rfl
  | .bool _, _ => rfl
  | .int i, h => by
    have e := intB_log h0 (of_decide_eq_true (show decide (i.natAbs < 2 ^ b) = true by simpa only [smallB] using h))
    simp only [PyData.showable]
    exact decide_eq_true (by omega)
  | .str _, _ => rfl
  | .list xs, h => by
    simp only [PyData.showable]
    exact smallB_canAll h0 h1 xs (by simpa only [smallB] using h)
  | .tuple xs, h => by
    simp only [PyData.showable]
    exact smallB_canAll h0 h1 xs (by simpa only [smallB] using h)
  | .dict _, h => by simp [smallB] at h
theorem smallB_canAll {b : Nat} (h0 : 0 < b) (h1 : b ≤ 1900) : ∀ xs : List PyData, smallB.smallAll b xs = true → PyData.showableAll xs = true
  | [], _ => rfl
  | x :: xs, h => by
    have h' : smallB b x = true ∧ smallB.smallAll b xs = true := by simpa only [smallB.smallAll, Bool.and_eq_true] using h
    simp only [PyData.showableAll, Bool.and_eq_true]
    exact ⟨smallB_can h0 h1 x h'.1, smallB_canAll h0 h1 xs h'.2⟩
end
mutual
theorem smallB_no {b : Nat} : ∀ d : PyData, smallB b d = true → d.hasDict = false
  | .none, _ => rfl
  | .bool _, _ => rfl
  | .int i, h => rfl
  | .str _, _ => rfl
  | .list xs, h => by
    simp only [PyData.hasDict]
    exact smallB_noAll xs (by simpa only [smallB] using h)
  | .tuple xs, h => by
    simp only [PyData.hasDict]
    exact smallB_noAll xs (by simpa only [smallB] using h)
  | .dict _, h => by simp [smallB] at h
theorem smallB_noAll {b : Nat} : ∀ xs : List PyData, smallB.smallAll b xs = true → PyData.hasDictAll xs = false
  | [], _ => rfl
  | x :: xs, h => by
    have h' : smallB b x = true ∧ smallB.smallAll b xs = true := by simpa only [smallB.smallAll, Bool.and_eq_true] using h
    simp only [PyData.hasDictAll, Bool.or_eq_false_iff]
    exact ⟨smallB_no x h'.1, smallB_noAll xs h'.2⟩
end
mutual
theorem smallB_leaves {b : Nat} (h0 : 0 < b) (h8 : 8 ≤ b) : ∀ d : PyData, smallB b d = true → d.leavesShort (b + 1) = true
  | .none, _ => rfl
  | .bool _, _ => rfl
  | .int i, h => by
    have e := intB_shown h0 (of_decide_eq_true (show decide (i.natAbs < 2 ^ b) = true by simpa only [smallB] using h))
    simp only [PyData.leavesShort]
    exact decide_eq_true e
  | .str x, h => by
    simp only [PyData.leavesShort, List.all_eq_true, decide_eq_true_eq]
    simp only [smallB, List.all_eq_true, decide_eq_true_eq] at h
    intro c hc
    exact Nat.lt_of_lt_of_le (h c hc) (by decide)
  | .list xs, h => by
    simp only [PyData.leavesShort]
    exact smallB_leavesAll h0 h8 xs (by simpa only [smallB] using h)
  | .tuple xs, h => by
    simp only [PyData.leavesShort]
    exact smallB_leavesAll h0 h8 xs (by simpa only [smallB] using h)
  | .dict _, h => by simp [smallB] at h
theorem smallB_leavesAll {b : Nat} (h0 : 0 < b) (h8 : 8 ≤ b) : ∀ xs : List PyData, smallB.smallAll b xs = true → PyData.leavesShortAll (b + 1) xs = true
  | [], _ => rfl
  | x :: xs, h => by
    have h' : smallB b x = true ∧ smallB.smallAll b xs = true := by simpa only [smallB.smallAll, Bool.and_eq_true] using h
    simp only [PyData.leavesShortAll, Bool.and_eq_true]
    exact ⟨smallB_leaves h0 h8 x h'.1, smallB_leavesAll h0 h8 xs h'.2⟩
end
theorem fit_b {b : Nat} {d : PyData} (h8 : 8 ≤ b) (h1 : b ≤ 1900) (h : smallB b d = true) (hd : d.depth ≤ 40) (hb : (b + 3) * d.bulk + (b + 1) ≤ 16777216) : Fit d := by
  refine ⟨smallB_can (by omega) h1 d h, smallB_no d h, hd, ?_⟩
  have e := PyData.shown_le_bulk (b + 1) (by omega) d (smallB_leaves (by omega) h8 d h)
  rw [sizeLine_eq]
  have e2 : (b + 1 + 2) * d.bulk = (b + 3) * d.bulk := rfl
  omega
end Lx
namespace Lw
open PySem PySem.Spec L2 Lx
/-! ### a chain step by step -/
def stepsL (r : List (Int × Int) × Int) (cs : List Nat) : List (Int × Int) × Int := cs.foldl (fun y c => runAfter y (stepF c)) r
theorem stepsL_snoc (r : List (Int × Int) × Int) (cs : List Nat) (c : Nat) : stepsL r (cs ++ [c]) = runAfter (stepsL r cs) (stepF c) := by
  unfold stepsL
  rw [List.foldl_append]
  rfl
theorem stepsL_append (r : List (Int × Int) × Int) (a b : List Nat) : stepsL r (a ++ b) = stepsL (stepsL r a) b := by
  unfold stepsL
  rw [List.foldl_append]
theorem formL_snoc (cs : List Nat) (c : Nat) : formL (cs ++ [c]) = (formL cs).both (stepF c) := by
  unfold formL
  rw [List.foldl_append]
  rfl
theorem merged_ok {n : Nat} (k : Nat) : ∀ gs : List (Int × Int), gs.length = k → GsOk n gs → Lx.merged gs = gs := by
  induction k with
  | zero =>
    intro gs h _
    rw [List.eq_nil_of_length_eq_zero h]
    rfl
  | succ k ih =>
    intro gs h hg
    rcases snoc_or gs with rfl | ⟨a, y, rfl⟩
    · rfl
    · obtain ⟨h1, h2, _⟩ := gsok_front hg
      rw [merged_snoc, ih a (by simpa using h) h1]
      rcases snoc_or a with rfl | ⟨b, z, rfl⟩
      · rfl
      · rw [addTo_snoc, if_neg (h2 b z rfl)]
theorem after_nothing {j : Int} (h : 0 ≤ j) : nothing.after j = j := by
  show (if j - 0 > 0 then j - 0 else 0) + 0 = j
  have := pp (j - 0)
  omega
theorem moved_nothing {gs : List (Int × Int)} (h : ∀ x ∈ gs, 0 ≤ x.2) : moved nothing gs = gs := by
  unfold moved
  induction gs with
  | nil => rfl
  | cons g gs ih =>
    rw [List.map_cons, ih fun x hx => h x (List.mem_cons_of_mem _ hx), after_nothing (h g (List.mem_cons_self ..))]
theorem runAfter_nothing {n : Nat} {r : List (Int × Int) × Int} (h : RnOk n r) : runAfter r nothing = r := by
  show (Lx.merged (moved nothing r.1), r.2) = r
  rw [moved_nothing (fun x hx => ((RnOk.sm h).1 x hx).2.1), merged_ok _ r.1 rfl h.gs]
theorem conv_form {n : Nat} {r : List (Int × Int) × Int} (h : RnOk n r) (k : Nat) : ∀ cs : List Nat, cs.length = k → runAfter r (formL cs) = stepsL r cs := by
  induction k with
  | zero =>
    intro cs e
    rw [List.eq_nil_of_length_eq_zero e]
    exact runAfter_nothing h
  | succ k ih =>
    intro cs e
    rcases snoc_or cs with rfl | ⟨a, c, rfl⟩
    · exact runAfter_nothing h
    · rw [formL_snoc, ← runAfter_both, ih a (by simpa using e), stepsL_snoc]
theorem conv_of {n : Nat} {r : List (Int × Int) × Int} (h : RnOk n r) (x : Str) : runAfter r (formOf x) = stepsL r x.cps.toList := conv_form h _ _ rfl
/-! ### forms of short chains -/
def FLs (L : Nat) : Fm → Prop
  | .keep b a => 0 ≤ b ∧ b ≤ L ∧ 0 ≤ a ∧ a ≤ L
  | .lf b a k c => 0 ≤ b ∧ b ≤ L ∧ 0 ≤ a ∧ a ≤ L ∧ 0 < k ∧ Sm (6 * L + 1) k ∧ 0 ≤ c ∧ c ≤ L
  | .cr b a k => 0 ≤ b ∧ b ≤ L ∧ 0 ≤ a ∧ a ≤ L ∧ 0 < k ∧ Sm (6 * L + 1) k
theorem sms_le {L : Nat} {x : Int} (h0 : 0 ≤ x) (h : x ≤ L) : Sm (6 * L + 1) x := by
  have h1 : L < 2 ^ L := Nat.lt_two_pow_self
  have h2 : 2 ^ L ≤ 2 ^ (6 * L + 1) := Nat.pow_le_pow_right (by decide) (by omega)
  unfold Sm
  omega
theorem FLs.ok {L : Nat} : ∀ {f : Fm}, FLs L f → f.Ok (6 * L + 1)
  | .keep _ _, ⟨h1, h2, h3, h4⟩ => ⟨h1, h3, sms_le h1 h2, sms_le h3 h4⟩
  | .lf _ _ _ _, ⟨h1, h2, h3, h4, h5, h6, h7, h8⟩ => ⟨h1, h3, h5, h7, sms_le h1 h2, sms_le h3 h4, h6, sms_le h7 h8⟩
  | .cr _ _ _, ⟨h1, h2, h3, h4, h5, h6⟩ => ⟨h1, h3, h5, sms_le h1 h2, sms_le h3 h4, h6⟩
theorem sms_mul {L : Nat} {k x : Int} (hk : Sm (6 * L + 1) k) (h0 : 0 ≤ x) (h : x < 64) : Sm (6 * (L + 1) + 1) (k * x * 1) := by
  have e : Sm 6 x := by
    unfold Sm
    have : (2 : Nat) ^ 6 = 64 := by decide
    omega
  rw [Int.mul_one]
  exact (hk.mul e).mono (by omega)
theorem sms_up {L : Nat} {k : Int} (hk : Sm (6 * L + 1) k) : Sm (6 * (L + 1) + 1) k := hk.mono (by omega)
theorem FLs.step {L : Nat} (hL : L ≤ 60) {c : Nat} (hc : c ∈ steps.cps.toList) {f : Fm} (h : FLs L f) : FLs (L + 1) (f.both (stepF c)) := by
  cases f with
  | keep b a =>
    obtain ⟨h1, h2, h3, h4⟩ := h
    have p1 := pp (0 - a)
    have p2 := pp (a - 0)
    have p3 := pp (1 - a)
    have p4 := pp (a - 1)
    have one : Sm (6 * (L + 1) + 1) 1 := sms_le (L := L + 1) (by decide) (by omega)
    rcases step_cases hc with e | e | e | e <;> rw [e] <;> simp only [Fm.both, Fm.ahead, Fm.b, Fm.a, FLs]
    · exact ⟨by omega, by omega, by omega, by omega⟩
    · exact ⟨by omega, by omega, by omega, by omega⟩
    · exact ⟨by omega, by omega, by omega, by omega, by decide, one, by decide, by omega⟩
    · exact ⟨by omega, by omega, by omega, by omega, by decide, one⟩
  | lf b a k d =>
    obtain ⟨h1, h2, h3, h4, h5, h6, h7, h8⟩ := h
    have p1 := pp (d - 0)
    have p2 := pp (d - 1)
    rcases step_cases hc with e | e | e | e <;> rw [e] <;> simp only [Fm.both, Fm.after, Fm.b, Fm.a, FLs]
    · exact ⟨h1, by omega, h3, by omega, h5, sms_up h6, by omega, by omega⟩
    · exact ⟨h1, by omega, h3, by omega, h5, sms_up h6, by omega, by omega⟩
    · refine ⟨h1, by omega, h3, by omega, ?_, sms_mul h6 (by omega) (by omega), by decide, by omega⟩
      rw [Int.mul_one]
      exact Int.mul_pos h5 (by omega)
    · refine ⟨h1, by omega, h3, by omega, ?_, sms_mul h6 (by omega) (by omega)⟩
      rw [Int.mul_one]
      exact Int.mul_pos h5 (by omega)
  | cr b a k =>
    obtain ⟨h1, h2, h3, h4, h5, h6⟩ := h
    rcases step_cases hc with e | e | e | e <;> rw [e] <;> simp only [Fm.both, FLs, Int.mul_one]
    · exact ⟨h1, by omega, h3, by omega, h5, sms_up h6⟩
    · exact ⟨h1, by omega, h3, by omega, h5, sms_up h6⟩
    · exact ⟨h1, by omega, h3, by omega, h5, sms_up h6, by decide, by omega⟩
    · exact ⟨h1, by omega, h3, by omega, h5, sms_up h6⟩
theorem formL_fls (k : Nat) : ∀ cs : List Nat, cs.length = k → k ≤ 61 → (∀ c ∈ cs, c ∈ steps.cps.toList) → FLs k (formL cs) := by
  induction k with
  | zero =>
    intro cs h _ _
    rw [List.eq_nil_of_length_eq_zero h]
    exact ⟨by decide, by decide, by decide, by decide⟩
  | succ k ih =>
    intro cs h hk hc
    rcases snoc_or cs with rfl | ⟨a, c, rfl⟩
    · simp at h
    · rw [formL_snoc]
      exact (ih a (by simpa using h) (by omega) fun d hd => hc d (List.mem_append.mpr (.inl hd))).step (by omega) (hc c (by simp))
/-! ### lengths -/
theorem addTo_len (a : List (Int × Int)) (x : Int × Int) : (addTo a x).length ≤ a.length + 1 := by
  rcases snoc_or a with rfl | ⟨b, y, rfl⟩
  · exact Nat.le_refl _
  · rw [addTo_snoc]
    split <;> simp
theorem fold_len : ∀ (gs acc : List (Int × Int)), (gs.foldl addTo acc).length ≤ acc.length + gs.length
  | [], acc => Nat.le_refl _
  | g :: gs, acc => by
    have h1 := fold_len gs (addTo acc g)
    have h2 := addTo_len acc g
    rw [List.foldl_cons, List.length_cons]
    omega
theorem runAfter_len (r : List (Int × Int) × Int) (f : Fm) : (runAfter r f).1.length ≤ max r.1.length 1 := by
  cases f with
  | keep b a =>
    have := fold_len (moved (.keep b a) r.1) []
    have e : (moved (.keep b a) r.1).length = r.1.length := List.length_map ..
    show (Lx.merged (moved (.keep b a) r.1)).length ≤ _
    unfold Lx.merged
    rw [e] at this
    simp at this
    omega
  | lf b a k c =>
    show (if k * units r (.lf b a k c) = 0 then (([] : List (Int × Int)), (0 : Int)) else ([(k * units r (.lf b a k c), c)], 0)).1.length ≤ _
    split
    · exact Nat.zero_le _
    · exact Nat.le_max_right ..
  | cr b a k => exact Nat.zero_le _
theorem _root_.Lx.RnOk.mono {n m : Nat} {r : List (Int × Int) × Int} (h : RnOk n r) (k : n ≤ m) : RnOk m r :=
  ⟨fun i x hx => let ⟨h1, h2, h3, h4, h5⟩ := h.gs i x hx; ⟨h1, h2, h3.mono k, h4.mono k, h5⟩, ⟨h.rest.1, h.rest.2.mono k⟩, h.len⟩
/-- a chain of at most sixty steps from a run with numbers below 2 ^ 361 -/
theorem stepsL_ok {n : Nat} {r : List (Int × Int) × Int} (h : RnOk n r) (hn : n ≤ 361) {cs : List Nat} (hl : cs.length ≤ 60) (hc : ∀ c ∈ cs, c ∈ steps.cps.toList) : RnOk 1123 (stepsL r cs) ∧ (stepsL r cs).1.length ≤ max r.1.length 1 := by
  rw [← conv_form h _ cs rfl]
  have f := (formL_fls _ cs rfl (by omega) hc).ok
  exact ⟨runAfter_ok (h.mono hn) (f.mono (by omega)), runAfter_len r _⟩
/-! ### runs that repr can write -/
theorem pd_smallB {b : Nat} : ∀ (gs : List (Int × Int)), (∀ x ∈ gs, Sm b x.1 ∧ Sm b x.2) → smallB.smallAll b (pd gs) = true
  | [], _ => rfl
  | g :: gs, h => by
    have h1 := h g (List.mem_cons_self ..)
    have ih := pd_smallB gs fun x hx => h x (List.mem_cons_of_mem _ hx)
    unfold pd at ih ⊢
    simp only [List.map_cons, smallB.smallAll, smallB, ih, Bool.and_true]
    rw [decide_eq_true (show g.1.natAbs < 2 ^ b from h1.1), decide_eq_true (show g.2.natAbs < 2 ^ b from h1.2)]
    rfl
theorem rd_smallB {b : Nat} {g : List (Int × Int) × Int} (h : RnOk b g) : smallB b (rd g) = true := by
  have e1 := pd_smallB (b := b) g.1 fun x hx => by
    obtain ⟨i, hi⟩ := List.mem_iff_getElem?.mp hx
    exact ⟨(h.gs i x hi).2.2.1, (h.gs i x hi).2.2.2.1⟩
  unfold rd
  simp only [smallB, smallB.smallAll, e1, Bool.and_true, Bool.true_and]
  exact decide_eq_true h.rest.2
theorem pd_bulk3 (gs : List (Int × Int)) : PyData.bulkAll (pd gs) = 3 * gs.length := by
  unfold pd
  induction gs with
  | nil => rfl
  | cons g gs ih =>
    simp only [List.map_cons, PyData.bulkAll, PyData.bulk, List.length_cons]
    omega
theorem rd_bulk (g : List (Int × Int) × Int) : (rd g).bulk = 3 * g.1.length + 2 := by
  have e := pd_bulk3 g.1
  unfold rd
  simp only [PyData.bulk, PyData.bulkAll]
  omega
theorem rd_fit {g : List (Int × Int) × Int} (h : RnOk 1123 g) (hl : g.1.length ≤ 1000) : Fit (rd g) := by
  have e := rd_bulk g
  have e2 := rd_depth g
  exact fit_b (b := 1123) (by decide) (by decide) (rd_smallB h) (by omega) (by omega)
theorem rd2_fit {g h : List (Int × Int) × Int} (h1 : RnOk 1123 g) (h2 : RnOk 1123 h) (hl : g.1.length ≤ 1000) (hl2 : h.1.length ≤ 1000) : Fit (.list [rd g, rd h]) := by
  have e := rd_bulk g
  have e' := rd_bulk h
  have e2 := rd_depth g
  have e2' := rd_depth h
  refine fit_b (b := 1123) (by decide) (by decide) ?_ ?_ ?_
  · simp only [smallB, smallB.smallAll, rd_smallB h1, rd_smallB h2, Bool.and_true]
  · simp only [PyData.depth, PyData.depthAll]
    omega
  · simp only [PyData.bulk, PyData.bulkAll]
    omega
theorem int_fit {x : Int} (h : Sm 1900 x) : Fit (.int x) := by
  refine fit_b (b := 1900) (by decide) (by decide) ?_ (by simp [PyData.depth]) (by simp [PyData.bulk])
  simp only [smallB]
  exact decide_eq_true h
end Lw
namespace Lw
open PySem PySem.Spec L2 Lx
theorem cutS_head (z : Str) (k : Nat) (h : k ≤ z.cps.size) : (cutS z none (some (k : Int))).cps.toList = z.cps.toList.take k := by
  unfold cutS
  have e : z.length = z.cps.size := rfl
  rw [e, HT.sIx_none, HT.sIx_nat, Nat.min_eq_left h]
  simp
theorem cutS_tail (z : Str) (k : Nat) (h : k ≤ z.cps.size) : (cutS z (some (k : Int)) none).cps.toList = z.cps.toList.drop k := by
  unfold cutS
  have e : z.length = z.cps.size := rfl
  rw [e, HT.sIx_none, HT.sIx_nat, Nat.min_eq_left h]
  simp
  exact List.take_of_length_le (by simp)
end Lw
namespace Lw
open PySem PySem.Spec L2 Lx
theorem units_size {g : List (Int × Int) × Int} {f : Fm} (h : RnOk 361 g) (hf : f.Ok 361) : Sm 1600 (units (runAfter g f) nothing) := by
  have hu := units_ok (RnOk.sm h) hf
  cases f with
  | keep b a =>
    rw [units_both]
    have e : (Fm.keep b a).both nothing = .keep b a := by
      have p1 := pp (0 - a)
      have p2 := pp (a - 0)
      have ha := hf.2.1
      show Fm.keep (b + (if 0 - a > 0 then 0 - a else 0)) ((if a - 0 > 0 then a - 0 else 0) + 0) = _
      congr 1 <;> omega
    rw [e]
    exact hu.2.mono (by decide)
  | lf b a k c =>
    by_cases z : k * units g (.lf b a k c) = 0
    · rw [show runAfter g (.lf b a k c) = ([], 0) from if_pos z]
      exact Nat.two_pow_pos _
    · rw [show runAfter g (.lf b a k c) = ([(k * units g (.lf b a k c), c)], 0) from if_neg z, units_one, after_nothing hf.2.2.2.1]
      have h1 := hf.2.2.2.2.2.2.1.mul hu.2
      have h2 : Sm 362 (c + 1) := hf.2.2.2.2.2.2.2.add (Nat.lt_of_lt_of_le (by decide : (1 : Int).natAbs < 2 ^ 1) (Nat.pow_le_pow_right (by decide) (by decide)))
      exact (h1.mul h2).mono (by decide)
  | cr b a k =>
    show Sm 1600 (units ([], k * units g (.cr b a k)) nothing)
    rw [units_none]
    exact (hf.2.2.2.2.2.mul hu.2).mono (by decide)
theorem stepsL_units {n : Nat} {r : List (Int × Int) × Int} (h : RnOk n r) (hn : n ≤ 361) {cs : List Nat} (hl : cs.length ≤ 60) (hc : ∀ c ∈ cs, c ∈ steps.cps.toList) : Sm 1900 (units (stepsL r cs) nothing) := by
  rw [← conv_form h _ cs rfl]
  have f := (formL_fls _ cs rfl (by omega) hc).ok
  exact (units_size (h.mono hn) (f.mono (by omega))).mono (by decide)
end Lw
namespace Lw
open PySem PySem.Spec L2 Lx
/-! ### a dict of draws -/
abbrev bagK (g : Addr) (l t b : Int) : List (Key × V) := [(.inr "great", .ref g), (.inr "left", .int l), (.inr "turn", .int t), (.inr "blend", .int b)]
theorem bag_put_left {g : Addr} {l t b x : Int} : putK (bagK g l t b) (.inr "left") (.int x) = bagK g x t b := by rfl
theorem bag_put_turn {g : Addr} {l t b x : Int} : putK (bagK g l t b) (.inr "turn") (.int x) = bagK g l x b := by rfl
theorem bag_great {g : Addr} {l t b : Int} : valV (bagK g l t b) (.inr "great") = some (.ref g) := by rfl
theorem bag_left {g : Addr} {l t b : Int} : valV (bagK g l t b) (.inr "left") = some (.int l) := by rfl
theorem bag_turn {g : Addr} {l t b : Int} : valV (bagK g l t b) (.inr "turn") = some (.int t) := by rfl
theorem bag_blend {g : Addr} {l t b : Int} : valV (bagK g l t b) (.inr "blend") = some (.int b) := by rfl
def BagAt (H : Hp) (r gl : Addr) (n : Nat) : Prop := ∃ (ds : List Int) (l t b : Int), H r = some (.dK (bagK gl l t b)) ∧ H gl = some (.lst (ds.map V.int)) ∧ (∀ d ∈ ds, 0 ≤ d) ∧ 0 ≤ l ∧ 0 ≤ t ∧ t ≤ n ∧ 0 ≤ b ∧ b < 2305843009213693952 ∧ r ≠ gl
theorem bag_get {H : Hp} {r gl : Addr} {l t b : Int} {k : Str} {v : V} (h : H r = some (.dK (bagK gl l t b))) (e : valV (bagK gl l t b) (.inr k) = some v) : DGet H r (.str k) (some v) := .inl ⟨_, .inr k, .inl h, rfl, e.symm⟩
/-- all but two addresses is as it was -/
def Kb (r gl : Addr) (H H' : Hp) : Prop := ∀ b o, b ≠ r → b ≠ gl → H b = some o → H' b = some o
theorem Kb.refl (r gl : Addr) (H : Hp) : Kb r gl H H := fun _ _ _ _ h => h
theorem Kb.trans {r gl : Addr} {H H1 H2 : Hp} (a : Kb r gl H H1) (b : Kb r gl H1 H2) : Kb r gl H H2 := fun c o h1 h2 h => b c o h1 h2 (a c o h1 h2 h)
theorem Kb.of {r gl : Addr} {H H' : Hp} (s : Same H H') : Kb r gl H H' := fun b o _ _ h => s b o h
theorem Kb.upd_r {r gl : Addr} {H : Hp} {o : HO} : Kb r gl H (upd H r o) := fun b u h1 h2 h => by rw [upd_ne h1]; exact h
theorem Kb.upd_g {r gl : Addr} {H : Hp} {o : HO} : Kb r gl H (upd H gl o) := fun b u h1 h2 h => by rw [upd_ne h2]; exact h
theorem Kb.own {r gl p : Addr} {H H' : Hp} {o : HO} (k : Kb r gl H H') (h : H p = none) : Kb r gl H (upd H' p o) := fun b u h1 h2 e => by
  rw [upd_ne (ne_of_none e h)]
  exact k b u h1 h2 e
theorem BagAt.same {H H' : Hp} {r gl : Addr} {n : Nat} (s : Same H H') : BagAt H r gl n → BagAt H' r gl n := fun ⟨ds, l, t, b, h1, h2, h3⟩ => ⟨ds, l, t, b, s _ _ h1, s _ _ h2, h3⟩
theorem BagAt.mono {H : Hp} {r gl : Addr} {n m : Nat} (k : n ≤ m) : BagAt H r gl n → BagAt H r gl m := fun ⟨ds, l, t, b, h1, h2, h3, h4, h5, h6, h7⟩ => ⟨ds, l, t, b, h1, h2, h3, h4, h5, by omega, h7⟩
theorem BagAt.ne {H : Hp} {r gl p : Addr} {n : Nat} (s : BagAt H r gl n) (h : H p = none) : p ≠ r ∧ p ≠ gl := by
  obtain ⟨_, _, _, _, q1, q2, _⟩ := s
  exact ⟨Ne.symm (ne_of_none q1 h), Ne.symm (ne_of_none q2 h)⟩
theorem BagAt.neT {H : Hp} {r gl p : Addr} {n : Nat} {xs : List V} (s : BagAt H r gl n) (h : H p = some (.tup xs)) : p ≠ r ∧ p ≠ gl := by
  obtain ⟨_, _, _, _, q1, q2, _⟩ := s
  exact ⟨ne_of h q1 (by intro z; cases z), ne_of h q2 (by intro z; cases z)⟩
theorem BagAt.own {H : Hp} {r gl p : Addr} {n : Nat} {o : HO} (s : BagAt H r gl n) (ne : p ≠ r ∧ p ≠ gl) : BagAt (upd H p o) r gl n := by
  obtain ⟨ds, l, t, b, h1, h2, h3⟩ := s
  exact ⟨ds, l, t, b, by rw [upd_ne (Ne.symm ne.1)]; exact h1, by rw [upd_ne (Ne.symm ne.2)]; exact h2, h3⟩
theorem Kb.free {r gl : Addr} {H H' : Hp} {n : Nat} (k : Kb r gl H H') (s : BagAt H' r gl n) {p : Addr} (h : H' p = none) : H p = none := by
  cases e : H p with
  | none => rfl
  | some o =>
    have := k p o (s.ne h).1 (s.ne h).2 e
    rw [h] at this
    cases this
theorem Prs.kb {K : PySem.W.Frag} {H H' : Hp} {r gl : Addr} {n : Nat} (s : BagAt H r gl n) (k : Kb r gl H H') : ∀ {vs : List V} {gs : List (Int × Int)}, Prs K H vs gs → Prs K H' vs gs
  | _, _, .nil => .nil
  | _, _, .cons ⟨p, e, h⟩ t => .cons ⟨p, e, k _ _ (s.neT h).1 (s.neT h).2 h⟩ (Prs.kb s k t)
theorem RnS.kb {K : PySem.W.Frag} {H H' : Hp} {v : V} {l r gl : Addr} {n : Nat} {g : List (Int × Int) × Int} (s : BagAt H r gl n) (k : Kb r gl H H') (ne : l ≠ r ∧ l ≠ gl) : RnS K H v l g → RnS K H' v l g :=
  fun ⟨p, xs, h1, h2, h3, h4⟩ => ⟨p, xs, h1, k _ _ (s.neT h2).1 (s.neT h2).2 h2, k _ _ ne.1 ne.2 h3, Prs.kb s k h4⟩
theorem if_fin {c : L2.TT} {A B : TS} {D : Ends} {σ : St} {H : Hp} (Fin : St → Hp → Prop) (h : ∀ R : St → Hp → Prop, (∀ σ H, Fin σ H → R σ H) → tIfS c A B { D with nx := R } σ H) (hf : ∀ σ H, Fin σ H → D.nx σ H) : tIfS c A B D σ H := h D.nx hf
/-! ### groups of which some may be empty, put together -/
/-- numbers that can be reckoned with -/
def GsSm (n : Nat) (gs : List (Int × Int)) : Prop := ∀ x ∈ gs, 0 ≤ x.1 ∧ 0 ≤ x.2 ∧ Sm n x.1 ∧ Sm n x.2
def reduced (gs : List (Int × Int)) : List (Int × Int) := Lx.merged (gs.filter fun x => decide (x.1 > 0))
theorem reduced_take {gs : List (Int × Int)} {i : Nat} {x : Int × Int} (h : gs[i]? = some x) : reduced (gs.take (i + 1)) = if x.1 > 0 then addTo (reduced (gs.take i)) x else reduced (gs.take i) := by
  unfold reduced
  rw [List.take_succ, h, List.filter_append]
  by_cases hx : x.1 > 0
  · have e : List.filter (fun x : Int × Int => decide (x.1 > 0)) (some x).toList = [x] := by simp [hx]
    rw [if_pos hx, e]
    unfold Lx.merged
    rw [List.foldl_append]
    rfl
  · have e : List.filter (fun x : Int × Int => decide (x.1 > 0)) (some x).toList = [] := by simp [hx]
    rw [if_neg hx, e, List.append_nil]
theorem reduced_all {gs : List (Int × Int)} (h : ∀ x ∈ gs, x.1 > 0) : reduced gs = Lx.merged gs := by
  unfold reduced
  rw [List.filter_eq_self.mpr fun x hx => decide_eq_true (h x hx)]
theorem reduced_ok {n : Nat} {gs : List (Int × Int)} (h : GsSm n gs) (hl : gs.length ≤ 1000) : GsOk (n + 11) (reduced gs) ∧ (reduced gs).length ≤ gs.length := by
  have hf : (gs.filter fun x => decide (x.1 > 0)).length ≤ gs.length := List.length_filter_le ..
  have m := mi_fold (n := n) (gs.filter fun x => decide (x.1 > 0)) [] 0 (by omega) (fun x hx => by
    obtain ⟨h1, h2⟩ := List.mem_filter.mp hx
    have h2 := of_decide_eq_true h2
    obtain ⟨q1, q2, q3, q4⟩ := h x h1
    exact ⟨by omega, q3, q2, q4.mono (by omega)⟩) ⟨(fun i x hx => by simp at hx), (fun x hx => by cases hx), Nat.le_refl _⟩
  obtain ⟨m1, m2, m3⟩ := m
  refine ⟨m1, ?_⟩
  have : (reduced gs).length ≤ 0 + (gs.filter fun x => decide (x.1 > 0)).length := m3
  omega
end Lw
namespace Lw
open PySem PySem.Spec L2 Lx
theorem scChkRun : FnScope ["run", "groups", "rest", "before", "index", "many", "j"] ["run"] (defScope sChkRun) := ⟨rfl, rfl, rfl, by decide +kernel, rfl, by decide +kernel, by decide +kernel⟩
def spChkRun (K : PySem.W.Frag) : Sp := fun vs H Q _ => ∃ x l r n, vs = [x] ∧ RnAt K H x l r ∧ RnOk n r ∧ ∀ H', Same H H' → Q .non H'
section
variable {P : Program} {w : World} {K : PySem.W.Frag} {mg : Str → Option Value} {base : Heap} {aL aN aS : Addr}
theorem ok_chkRun {f : Addr} {fd : FuncData} {k : Nat} (F : Fun K "check_run" "check_run" sChkRun f fd) (mE : mg "enumerate" = none) : FnOk P w K mg base CX0 (k + 1) f fd ["run"] (spChkRun K) := by
  refine F.ok scChkRun (fun vs H Q E h => ?_) (fun cdv A outer s H vs Q E hr h => ?_)
  · obtain ⟨x, l, r, n, rfl, _⟩ := h
    rfl
  · obtain ⟨_, l, r, n, rfl, ⟨p, rfl, hT, xs, hL, hP⟩, ho, q⟩ := h
    refine ⟨_, pss_cons (ps_asg (pv 0) (pg_tup (by rfl) (pgs_cons (pg_name (i := 1) scChkRun.nd rfl (.inl rfl)) (pgs_cons (pg_name (i := 2) scChkRun.nd rfl (.inl rfl)) pgs_nil))))
      (pss_cons (ps_set (i := 3) scChkRun.nd rfl (.inl rfl) pe_non)
      (pss_cons (ps_for PassesOwn.never rfl (pi_enum rfl mE (pa_cons (pv 1) pa_nil)) (pg_tup (by rfl) (pgs_cons (pg_name (i := 4) scChkRun.nd rfl (.inl rfl)) (pgs_cons (pg_tup (by rfl) (pgs_cons (pg_name (i := 5) scChkRun.nd rfl (.inl rfl)) (pgs_cons (pg_name (i := 6) scChkRun.nd rfl (.inl rfl)) pgs_nil))) pgs_nil)))
        (pss_cons (ps_if (PW.pt (pw_or (pt_cmpR op_lt (pv 5) pe_int (nomark _)) (pw_or (pt_cmpR op_lt (pv 6) pe_int (nomark _)) (pw_or1 (pt_cmpR op_eq (pv 6) (pv 3) (nomark _)))))) (pss_one ps_never) pss_nil)
        (pss_one (ps_set (i := 3) scChkRun.nd rfl (.inl rfl) (pv 6)))))
      (pss_one (ps_if (pt_cmpR op_lt (pv 2) pe_int (nomark _)) (pss_one ps_never) pss_nil)))), ?_⟩
    refine ⟨_, rfl, p, _, rfl, hT, rfl, _, _, rfl, _, _, rfl, rfl, ?_⟩
    refine ⟨_, rfl, l, xs, rfl, hL, ?_⟩
    refine for_it (walk_enum (xs := xs)) (fun i σ H' => Same H H' ∧ ∃ bf y4 y5 y6, σ = [some (.ref p), some (.ref l), some (.int r.2), some bf, y4, y5, y6] ∧ (i = 0 → bf = .non) ∧ ∀ i' x, i = i' + 1 → r.1[i']? = some x → bf = .int x.2)
      ⟨Same.refl H, .non, none, none, none, rfl, fun _ => rfl, fun _ _ e => by cases e⟩ (fun i σ H' _ hP => hP.1.seq hL) ?_ ?_
    · rintro i v σ H1 H2 hi ⟨sm, bf, y4, y5, y6, rfl, hb0, hb1⟩ ⟨T, u1, u2, rfl, nT, rfl, h1, h2⟩
      cases Option.some.inj h1
      obtain ⟨x, hx, p2, rfl, hp2'⟩ := hP.get h2
      have hp2 : SqT K H p2 [.int x.1, .int x.2] := .inl (.inl hp2')
      have s2 := sm.trans (same_upd (o := .tup [.int (i : Nat), .ref p2]) nT)
      obtain ⟨o1, o2, _, _, o5⟩ := ho.gs i x hx
      refine ⟨T, _, rfl, .inl (.inl upd_same), rfl, _, _, rfl, _, _, rfl, p2, _, rfl, sameT s2 hp2, rfl, _, _, rfl, _, _, rfl, rfl, rfl, ?_⟩
      refine ⟨_, rfl, _, _, rfl, rfl, _, rfl, ?_⟩
      rw [decide_eq_false (by omega : ¬ x.1 < 1)]
      refine iteF ⟨_, rfl, _, _, rfl, rfl, _, rfl, ?_⟩
      rw [decide_eq_false (by omega : ¬ x.2 < 0)]
      refine iteF ⟨_, rfl, _, rfl, ?_⟩
      have hne : scal (.int x.2) bf = true ∧ ¬ (V.int x.2 = bf) := by
        cases i with
        | zero =>
          cases hb0 rfl
          exact ⟨rfl, by intro z; cases z⟩
        | succ i' =>
          have hlt : i' < r.1.length := by
            have := (List.getElem?_eq_some_iff.mp hx).1
            omega
          have e := hb1 i' _ rfl (List.getElem?_eq_getElem hlt)
          subst e
          refine ⟨rfl, fun z => ?_⟩
          exact (ho.gs i' _ (List.getElem?_eq_getElem hlt)).2.2.2.2 x hx (V.int.inj z)
      refine ⟨hne.1, _, rfl, ?_⟩
      rw [decide_eq_false hne.2]
      refine iteF ⟨_, rfl, s2, _, _, _, _, rfl, (fun e => by cases e), fun i' x' e hx' => ?_⟩
      cases Nat.succ.inj e
      rw [hx] at hx'
      cases hx'
      rfl
    · rintro σ H1 ⟨sm, bf, y4, y5, y6, rfl, _⟩
      refine ⟨_, rfl, _, _, rfl, rfl, _, rfl, ?_⟩
      rw [decide_eq_false (by have := ho.rest.1; omega : ¬ r.2 < 0)]
      exact iteF (q _ sm)
end
end Lw
namespace Lw
open PySem PySem.Spec L2 Lx
theorem scIsForm : FnScope ["wanted"] ["wanted"] (defScope sIsForm) := ⟨rfl, rfl, rfl, by decide +kernel, rfl, by decide +kernel, by decide +kernel⟩
theorem scChkForm : FnScope ["wanted"] ["wanted"] (defScope sChkForm) := ⟨rfl, rfl, rfl, by decide +kernel, rfl, by decide +kernel, by decide +kernel⟩
def spIsForm (K : PySem.W.Frag) : Sp := fun vs H Q _ => ∃ x f n, vs = [x] ∧ FmAt K H x f ∧ f.Ok n ∧ ∀ H', Same H H' → Q (.bl true) H'
def spChkForm (K : PySem.W.Frag) : Sp := fun vs H Q _ => ∃ x f n, vs = [x] ∧ FmAt K H x f ∧ f.Ok n ∧ ∀ H', Same H H' → Q .non H'
section
variable {P : Program} {w : World} {K : PySem.W.Frag} {mg : Str → Option Value} {base : Heap} {aL aN aS : Addr}
theorem ok_isForm {f : Addr} {fd : FuncData} {k : Nat} (F : Fun K "is_form" "is_form" sIsForm f fd) (T : LenT K w mg aL) (mL : mg "len" = none) (mM : mg "min" = none) : FnOk P w K mg base CX0 (k + 1) f fd ["wanted"] (spIsForm K) := by
  refine F.ok scIsForm (fun vs H Q E h => ?_) (fun cdv A outer s H vs Q E hr h => ?_)
  · obtain ⟨x, f, n, rfl, _⟩ := h
    rfl
  · obtain ⟨_, f, n, rfl, ⟨p, rfl, hT⟩, ho, q⟩ := h
    refine ⟨_, pss_cons (ps_if (PW.pt (pw_or (pt_not (pt_truth (pv 0) (fun _ => rfl))) (pw_or1 (pt_cmpR op_ne (pe_kget (pe_glob (v := .ref aL) rfl T.g rfl) (pe_ix ix_tup (pv 0) pe_int (fun _ _ => rfl)) ⟨rfl, rfl, rfl, rfl⟩) (pe_callB call_len_seq (by rfl) mL PySem.boot_len (pa_cons (pv 0) pa_nil)) (nomark _))))) (pss_one (ps_ret pe_bl)) pss_nil)
      (pss_cons (ps_if (pt_cmpR op_lt (pe_callB (call_minT rfl) (by rfl) mM (by decide +kernel) (pa_cons (pe_slice sl_tup (pv 0) (po_some pe_int) po_none) pa_nil)) pe_int (nomark _)) (pss_one (ps_ret pe_bl)) pss_nil)
      (pss_one (ps_ret (pe_or (pe_cmpR op_eq (pe_ix ix_tup (pv 0) pe_int (fun _ _ => rfl)) pe_str (nomark _)) (pe_one (pe_cmpR op_gt (pe_ix ix_tup (pv 0) pe_int (fun _ _ => rfl)) pe_int (nomark _))))))), ?_⟩
    obtain ⟨es, dn, D⟩ := T.d
    obtain ⟨t, ht⟩ := T.at f
    have hne : f.vs.isEmpty = false := by cases f <;> rfl
    refine ⟨_, rfl, true, .inr (.inl ⟨f.vs, hT, by rw [hne]; rfl⟩), iteF ?_⟩
    refine ⟨aL, es, dn, rfl, D, _, rfl, p, _, 0, _, rfl, rfl, hT, atI_nat (j := 0) f.vs0, f.nm, _, .int f.vs.length, rfl, ht, ⟨t, rfl⟩, ?_⟩
    refine ⟨_, rfl, p, f.vs, rfl, .inr hT, ?_⟩
    refine ⟨rfl, _, rfl, ?_⟩
    rw [decide_eq_true rfl]
    refine iteF ?_
    refine ⟨_, rfl, 1, rfl, p, f.vs, rfl, hT, wh f, fun p2 n2 => ?_⟩
    rw [cut1]
    have s2 := same_upd (o := .tup (f.nums.map V.int)) n2
    refine ⟨p2, f.nums, rfl, .inl (.inl upd_same), np f, fun m hm _ => ?_⟩
    refine ⟨_, _, rfl, rfl, _, rfl, ?_⟩
    rw [decide_eq_false (by have := nums0 ho m hm; omega : ¬ m < 0)]
    refine iteF ?_
    refine ⟨_, rfl, p, _, 0, _, rfl, rfl, sameT s2 hT, atI_nat (j := 0) f.vs0, rfl, _, rfl, ?_⟩
    cases f with
    | keep b a => exact iteT (q _ s2)
    | lf b a k c =>
      refine iteF ⟨_, rfl, p, _, 3, .int k, rfl, rfl, sameT s2 hT, atI_nat (j := 3) rfl, _, _, rfl, rfl, ?_⟩
      show Q (.bl (decide (0 < k))) _
      rw [decide_eq_true (by have := ho.2.2.1; omega : 0 < k)]
      exact q _ s2
    | cr b a k =>
      refine iteF ⟨_, rfl, p, _, 3, .int k, rfl, rfl, sameT s2 hT, atI_nat (j := 3) rfl, _, _, rfl, rfl, ?_⟩
      show Q (.bl (decide (0 < k))) _
      rw [decide_eq_true (by have := ho.2.2.1; omega : 0 < k)]
      exact q _ s2
theorem ok_chkForm {f fI : Addr} {fd fdI : FuncData} {k : Nat} (F : Fun K "check_form" "check_form" sChkForm f fd) (GI : FnOk P w K mg base CX0 k fI fdI ["wanted"] (spIsForm K)) (kI : PySem.W.keepIn K (.ref fI) = true) (bI : Binds K fdI ["wanted"] []) (gI : mg "is_form" = some (.ref fI)) :
    FnOk P w K mg base CX0 (k + 1) f fd ["wanted"] (spChkForm K) := by
  refine F.ok scChkForm (fun vs H Q E h => ?_) (fun cdv A outer s H vs Q E hr h => ?_)
  · obtain ⟨x, f, n, rfl, _⟩ := h
    rfl
  · obtain ⟨x, f, n, rfl, hf, ho, q⟩ := h
    refine ⟨_, pss_one (ps_if (pt_not (pt_val (pe_call GI hr (by rfl) gI kI bI .nil pass0 (pa_cons (pv 0) pa_nil)))) (pss_one ps_never) pss_nil), ?_⟩
    refine ⟨_, rfl, x, f, n, rfl, hf, ho, fun H' sm => ?_⟩
    exact ⟨_, rfl, iteF (q _ sm)⟩
end
end Lw
namespace Lw
open PySem PySem.Spec L2 Lx
theorem scSigns : FnScope ["j", "wanted"] ["j", "wanted"] (defScope sSigns) := ⟨rfl, rfl, rfl, by decide +kernel, rfl, by decide +kernel, by decide +kernel⟩
theorem scUog : FnScope ["j", "wanted"] ["j", "wanted"] (defScope sUog) := ⟨rfl, rfl, rfl, by decide +kernel, rfl, by decide +kernel, by decide +kernel⟩
def spUog (K : PySem.W.Frag) : Sp := fun vs H Q _ => ∃ j x f, vs = [.int j, x] ∧ FmAt K H x f ∧ Q (.int (f.after j + 1)) H
def spSigns (K : PySem.W.Frag) : Sp := fun vs H Q _ => ∃ j x f, vs = [.int j, x] ∧ FmAt K H x f ∧ Q (.int (f.after j)) H
section
variable {P : Program} {w : World} {K : PySem.W.Frag} {mg : Str → Option Value} {base : Heap} {aL aN aS : Addr}
theorem ok_signs {f : Addr} {fd : FuncData} {k : Nat} (F : Fun K "signs_after" "signs_after" sSigns f fd) (mX : mg "max" = none) : FnOk P w K mg base CX0 (k + 1) f fd ["j", "wanted"] (spSigns K) := by
  refine F.ok scSigns (fun vs H Q E h => ?_) (fun cdv A outer s H vs Q E hr h => ?_)
  · obtain ⟨j, x, f, rfl, _⟩ := h
    rfl
  · obtain ⟨j, _, f, rfl, ⟨p, rfl, hT⟩, q⟩ := h
    refine ⟨_, pss_one (ps_ret (pe_op op_add (pe_callB (call_max2 rfl) (by rfl) mX (by decide +kernel) (pa_cons pe_int (pa_cons (pe_op op_sub (pv 0) (pe_ix ix_tup (pv 1) pe_int (fun _ _ => rfl))) pa_nil))) (pe_ix ix_tup (pv 1) pe_int (fun _ _ => rfl)))), ?_⟩
    refine ⟨_, rfl, _, rfl, p, _, 1, _, rfl, rfl, hT, atI_nat (j := 1) f.vs1, _, _, rfl, rfl, _, _, rfl, _, rfl, p, _, 2, _, rfl, rfl, hT, atI_nat (j := 2) f.vs2, _, _, rfl, rfl, q⟩
theorem ok_uog {f fS : Addr} {fd fdS : FuncData} {k : Nat} (F : Fun K "units_of_group" "units_of_group" sUog f fd) (GS : FnOk P w K mg base CX0 k fS fdS ["j", "wanted"] (spSigns K)) (kS : PySem.W.keepIn K (.ref fS) = true) (bS : Binds K fdS ["j", "wanted"] []) (gS : mg "signs_after" = some (.ref fS)) :
    FnOk P w K mg base CX0 (k + 1) f fd ["j", "wanted"] (spUog K) := by
  refine F.ok scUog (fun vs H Q E h => ?_) (fun cdv A outer s H vs Q E hr h => ?_)
  · obtain ⟨j, x, f, rfl, _⟩ := h
    rfl
  · obtain ⟨j, x, f, rfl, hx, q⟩ := h
    refine ⟨_, pss_one (ps_ret (pe_op op_add (pe_call GS hr (by rfl) gS kS bS .nil pass0 (pa_cons (pv 0) (pa_cons (pv 1) pa_nil))) pe_int)), ?_⟩
    exact ⟨_, rfl, _, rfl, j, x, f, rfl, hx, _, _, rfl, rfl, q⟩
end
end Lw
namespace Lw
open PySem PySem.Spec L2 Lx
abbrev nUnits : List Str := ["run", "wanted", "groups", "rest", "many", "j"]
theorem scUnits : FnScope nUnits ["run", "wanted"] (defScope sUnits) := ⟨rfl, rfl, rfl, by decide +kernel, rfl, by decide +kernel, by decide +kernel⟩
def spUnits (K : PySem.W.Frag) : Sp := fun vs H Q _ => ∃ x l r y f n, vs = [x, y] ∧ RnAt K H x l r ∧ FmAt K H y f ∧ RnSm n r ∧ f.Ok n ∧ n ≤ 100000 ∧ ∀ H', Same H H' → Q (.int (units r f)) H'
section
variable {P : Program} {w : World} {K : PySem.W.Frag} {mg : Str → Option Value} {base : Heap} {aL aN aS : Addr}
theorem ok_units {f fS : Addr} {fd fdS : FuncData} {k : Nat} (F : Fun K "units" "units" sUnits f fd) (GS : FnOk P w K mg base CX0 k fS fdS ["j", "wanted"] (spUog K)) (kS : PySem.W.keepIn K (.ref fS) = true) (bS : Binds K fdS ["j", "wanted"] []) (gS : mg "units_of_group" = some (.ref fS)) (mS : mg "sum" = none) :
    FnOk P w K mg base CX0 (k + 1) f fd ["run", "wanted"] (spUnits K) := by
  refine F.ok scUnits (fun vs H Q E h => ?_) (fun cdv A outer s H vs Q E hr h => ?_)
  · obtain ⟨x, l, r, y, f, n, rfl, _⟩ := h
    rfl
  · obtain ⟨_, l, r, y, f, n, rfl, ⟨p, rfl, hT, xs, hL, hP⟩, hy, hs, hf, hn, q⟩ := h
    refine ⟨_, pss_cons (ps_asg (pv 0) (pg_tup (by rfl) (pgs_cons (pg_name (i := 2) scUnits.nd rfl (.inl rfl)) (pgs_cons (pg_name (i := 3) scUnits.nd rfl (.inl rfl)) pgs_nil))))
      (pss_one (ps_ret (pe_op op_add (pe_callB (cr_sum rfl) (by rfl) mS (by decide +kernel) (pa_cons (pe_lc (own := [("many", 4), ("j", 5)]) (g := gTup K 2 (gCons (gName 4) (gCons (gName 5) gNil))) (tt := tYes) rfl scUnits.nd (pi_list (pv 2)) (blkOk_by (own := [("many", 4), ("j", 5)]) (N := nUnits) (sc := defScope sUnits) (by decide +kernel))
          (fun _ _ _ _ _ => pg_tup (by rfl) (pgs_cons (pg_name (i := 4) scUnits.nd rfl (.inl rfl)) (pgs_cons (pg_name (i := 5) scUnits.nd rfl (.inl rfl)) pgs_nil))) (fun _ _ _ _ _ => pts_nil)
          (fun _ _ _ _ _ => pe_op op_mulW (pv 4) (pe_call GS hr (by rfl) gS kS bS .nil pass0 (pa_cons (pv 5) (pa_cons (pv 1) pa_nil))))) pa_nil)) (pv 3)))), ?_⟩
    refine ⟨_, rfl, p, _, rfl, hT, rfl, _, _, rfl, _, _, rfl, rfl, ?_⟩
    refine ⟨_, rfl, l, rfl, ⟨_, hL⟩, fun D nD => ?_⟩
    refine lc_it (walk_list (xs := xs)) (fun i H' => Same H H' ∧ H' D = some (.lst (((r.1.take i).map fun x => x.1 * (f.after x.2 + 1)).map V.int))) ⟨same_upd nD, upd_same⟩ (fun i H' _ hQ => hQ.1.seq hL) ?_ ?_
    · rintro i u H1 H2 hi ⟨sm, hD⟩ ⟨rfl, hu⟩
      obtain ⟨x, hx, a, rfl, ha'⟩ := hP.get hu
      have ha : SqT K H a [.int x.1, .int x.2] := .inl (.inl ha')
      have hxm := List.mem_of_getElem? hx
      obtain ⟨x1, x2, x3, x4⟩ := hs.1 x hxm
      have hb := Fm.after_ok (hf.mono (Nat.le_succ n)) x2 (x4.mono (Nat.le_succ n))
      have hb2 : Sm (n + 3) (f.after x.2 + 1) := hb.2.add (Nat.lt_of_lt_of_le (by decide : (1 : Int).natAbs < 2 ^ 1) (Nat.pow_le_pow_right (by decide) (by omega)))
      refine ⟨a, _, rfl, sameT sm ha, rfl, _, _, rfl, _, _, rfl, rfl, rfl, ?_⟩
      refine ⟨_, rfl, _, rfl, _, rfl, x.2, y, f, rfl, hy.same sm, _, _, rfl, rfl, wide_mul (x3.mono (Nat.le_succ n)) hb2 (by omega) (by omega) (by omega), ?_⟩
      refine ⟨_, hD, ?_, Same.own sm nD, ?_⟩
      · have := hs.2.2.2
        rw [List.length_map, List.length_map, List.length_take, sizeLine_eq]
        omega
      · rw [upd_same, List.take_succ, hx, List.map_append, List.map_append]
        rfl
    · rintro H1 ⟨sm, hD⟩
      rw [List.take_of_length_le (by rw [← hP.len]; exact Nat.le_refl _)] at hD
      refine ⟨D, _, rfl, .inl (.inl hD), _, rfl, _, _, rfl, rfl, ?_⟩
      rw [sum_mapV]
      exact q _ sm
end
end Lw
namespace Lw
open PySem PySem.Spec L2 Lx
theorem scChp : FnScope ["place", "total"] ["place", "total"] (defScope sCheckPlace) := ⟨rfl, rfl, rfl, by decide +kernel, rfl, by decide +kernel, by decide +kernel⟩
theorem scWid : FnScope ["wanted"] ["wanted"] (defScope sCharactersOfUnit) := ⟨rfl, rfl, rfl, by decide +kernel, rfl, by decide +kernel, by decide +kernel⟩
theorem scLen : FnScope ["groups", "wanted", "_", "j"] ["groups", "wanted"] (defScope sLengthsAfter) := ⟨rfl, rfl, rfl, by decide +kernel, rfl, by decide +kernel, by decide +kernel⟩
theorem scLoc : FnScope ["groups", "lengths", "place", "at", "many", "_", "number", "inside"] ["groups", "lengths", "place"] (defScope sLocated) := ⟨rfl, rfl, rfl, by decide +kernel, rfl, by decide +kernel, by decide +kernel⟩
theorem scSta : FnScope ["groups", "lengths", "at", "number", "before", "length", "many", "_"] ["groups", "lengths", "at", "number"] (defScope sStartOf) := ⟨rfl, rfl, rfl, by decide +kernel, rfl, by decide +kernel, by decide +kernel⟩
theorem scRet : FnScope ["j", "wanted"] ["j", "wanted"] (defScope sReturnsLeft) := ⟨rfl, rfl, rfl, by decide +kernel, rfl, by decide +kernel, by decide +kernel⟩
theorem scOri : FnScope ["j", "wanted", "unit"] ["j", "wanted", "unit"] (defScope sOriginInGroup) := ⟨rfl, rfl, rfl, by decide +kernel, rfl, by decide +kernel, by decide +kernel⟩
theorem scUig : FnScope ["j", "wanted", "place", "left"] ["j", "wanted", "place"] (defScope sUnitsInGroup) := ⟨rfl, rfl, rfl, by decide +kernel, rfl, by decide +kernel, by decide +kernel⟩
theorem scTra : FnScope ["run", "wanted", "place", "width", "groups", "_", "at", "number", "inside", "start"] ["run", "wanted", "place"] (defScope sTrace) := ⟨rfl, rfl, rfl, by decide +kernel, rfl, by decide +kernel, by decide +kernel⟩
theorem scOff : FnScope ["run", "wanted", "place", "groups", "_", "at", "number", "inside", "first", "last", "start", "width"] ["run", "wanted", "place"] (defScope sOffspring) := ⟨rfl, rfl, rfl, by decide +kernel, rfl, by decide +kernel, by decide +kernel⟩
def lens (f : Fm) (gs : List (Int × Int)) : List Int := (gs.map fun x => f.after x.2 + 1) ++ [0]
def GOk (n : Nat) (gs : List (Int × Int)) : Prop := (∀ x ∈ gs, 0 ≤ x.1 ∧ 0 ≤ x.2 ∧ Sm n x.1 ∧ Sm n x.2) ∧ gs.length ≤ 1000
def Loc (f : Fm) (gs : List (Int × Int)) (place : Int) (at' : Nat) (num ins : Int) : Prop :=
  (∃ x, gs[at']? = some x ∧ 0 ≤ num ∧ num < x.1 ∧ 0 ≤ ins ∧ ins < f.after x.2 + 1 ∧ place = total (moved f (gs.take at')) + num * (f.after x.2 + 1) + ins) ∨
  (at' = gs.length ∧ num = 0 ∧ 0 ≤ ins ∧ place = total (moved f gs) + ins)
def spChp : Sp := fun vs H Q _ => ∃ p t : Int, vs = [.int p, .int t] ∧ 0 ≤ p ∧ p < t ∧ Q .non H
def spWid (K : PySem.W.Frag) : Sp := fun vs H Q _ => ∃ y f n, vs = [y] ∧ FmAt K H y f ∧ f.Ok n ∧ 0 < n ∧ n ≤ 4000 ∧ Q (.int (width f)) H
def spLens (K : PySem.W.Frag) : Sp := fun vs H Q _ => ∃ l y gs f, vs = [.ref l, y] ∧ GsAt K H l gs ∧ FmAt K H y f ∧ gs.length ≤ 1000 ∧ ∀ p H', Same H H' → H' p = some (.lst ((lens f gs).map V.int)) → Q (.ref p) H'
def spLoc (K : PySem.W.Frag) : Sp := fun vs H Q _ => ∃ l q0 place gs f n, vs = [.ref l, .ref q0, .int place] ∧ GsAt K H l gs ∧ H q0 = some (.lst ((lens f gs).map V.int)) ∧ GOk n gs ∧ f.Ok n ∧ 0 < n ∧ n ≤ 2000 ∧ 0 ≤ place ∧
  ∀ (t : Addr) (H' : Hp) (at' : Nat) (num ins : Int), Same H H' → H' t = some (.tup [.int at', .int num, .int ins]) → Loc f gs place at' num ins → Q (.ref t) H'
def spSta (K : PySem.W.Frag) : Sp := fun vs H Q _ => ∃ (l q0 : Addr) (at' : Nat) (num : Int) (gs : List (Int × Int)) (f : Fm) (n : Nat) (ln : Int), vs = [.ref l, .ref q0, .int at', .int num] ∧ GsAt K H l gs ∧ H q0 = some (.lst ((lens f gs).map V.int)) ∧ GOk n gs ∧ f.Ok n ∧ 0 < n ∧ n ≤ 2000 ∧ (lens f gs)[at']? = some ln ∧ Sm n num ∧
  ∀ H', Same H H' → Q (.int (total (moved f (gs.take at')) + num * ln)) H'
def spRet (K : PySem.W.Frag) : Sp := fun vs H Q _ => ∃ j y f, vs = [.int j, y] ∧ FmAt K H y f ∧ Q (.int (lft f j)) H
def spOri (K : PySem.W.Frag) : Sp := fun vs H Q _ => ∃ j y f u, vs = [.int j, y, .int u] ∧ FmAt K H y f ∧ Q (.int (if u < lft f j then u else j)) H
def spUig (K : PySem.W.Frag) : Sp := fun vs H Q _ => ∃ j y f p, vs = [.int j, y, .int p] ∧ FmAt K H y f ∧ ∀ (t : Addr) (H' : Hp), Same H H' → H' t = some (.tup [.int (if p = j then lft f j else p), .int (if p = j then lft f j + f.a else (if lft f j - 1 < p then lft f j - 1 else p))]) → Q (.ref t) H'
structure MxF (mg : Str → Option Value) : Prop where
  max : mg "max" = none
structure MnF (mg : Str → Option Value) : Prop where
  min : mg "min" = none
structure LoF (mg : Str → Option Value) : Prop where
  enumerate : mg "enumerate" = none
  divmod : mg "divmod" = none
  len : mg "len" = none
structure StF (mg : Str → Option Value) : Prop where
  zip : mg "zip" = none
  sum : mg "sum" = none
structure LeF (mg : Str → Option Value) : Prop where
  len : mg "len" = none
theorem lens_at {f : Fm} {gs : List (Int × Int)} {i : Nat} {x : Int × Int} (h : gs[i]? = some x) : (lens f gs)[i]? = some (f.after x.2 + 1) := by
  have hl := (List.getElem?_eq_some_iff.mp h).1
  unfold lens
  rw [List.getElem?_append_left (by rw [List.length_map]; exact hl), List.getElem?_map, h]
  rfl
theorem lens_end {f : Fm} {gs : List (Int × Int)} : (lens f gs)[gs.length]? = some 0 := by
  unfold lens
  rw [List.getElem?_append_right (by rw [List.length_map]; exact Nat.le_refl _), List.length_map, Nat.sub_self]
  rfl
theorem lens_len {f : Fm} {gs : List (Int × Int)} : (lens f gs).length = gs.length + 1 := by
  unfold lens
  rw [List.length_append, List.length_map]
  rfl
theorem GOk.take {n : Nat} {gs : List (Int × Int)} (h : GOk n gs) (i : Nat) : GOk n (gs.take i) := ⟨fun x hx => h.1 x (List.mem_of_mem_take hx), by
  have := h.2
  rw [List.length_take]
  omega⟩
theorem tot_take {f : Fm} {gs : List (Int × Int)} {i : Nat} {x : Int × Int} (h : gs[i]? = some x) : total (moved f (gs.take (i + 1))) = total (moved f (gs.take i)) + x.1 * (f.after x.2 + 1) := by
  have e : moved f (gs.take (i + 1)) = moved f (gs.take i) ++ [(x.1, f.after x.2)] := by
    unfold moved
    rw [List.take_succ, h, List.map_append]
    rfl
  rw [e, total_snoc]
theorem ln_ok {n : Nat} {f : Fm} {x : Int × Int} (hf : f.Ok n) (h0 : 0 ≤ x.2) (h1 : Sm n x.2) : 1 ≤ f.after x.2 + 1 ∧ Sm (n + 2) (f.after x.2 + 1) := by
  have hb := Fm.after_ok hf h0 h1
  have hb2 : Sm (n + 2) (f.after x.2 + 1) := hb.2.add (Nat.lt_of_lt_of_le (by decide : (1 : Int).natAbs < 2 ^ 1) (Nat.pow_le_pow_right (by decide) (by omega)))
  exact ⟨by omega, hb2⟩
theorem cutV_take (xs : List V) (k : Nat) : cutV xs none (some (k : Int)) = xs.take k := by
  unfold cutV
  rw [HT.sIx_nat, HT.sIx_none, List.drop_zero, Nat.sub_zero, ← List.take_eq_take_min]
/-- of a place: where it stems from, what stems from it -/
def spTra (K : PySem.W.Frag) : Sp := fun vs H Q _ => ∃ x y l r f n place, vs = [x, y, .int place] ∧ RnAt K H x l r ∧ FmAt K H y f ∧ RnOk n r ∧ f.Ok n ∧ 0 < n ∧ n ≤ 2000 ∧ 0 ≤ place ∧ place < width f * units r f ∧
  ∀ (H' : Hp) (p : Int), Same H H' → 0 ≤ p → p < size1 r → width f * U f (expand r.1) p ≤ place → place < width f * U f (expand r.1) (p + 1) → Q (.int p) H'
def spOff (K : PySem.W.Frag) : Sp := fun vs H Q _ => ∃ x y l r f n place, vs = [x, y, .int place] ∧ RnAt K H x l r ∧ FmAt K H y f ∧ RnOk n r ∧ f.Ok n ∧ 0 < n ∧ n ≤ 2000 ∧ 0 ≤ place ∧ place < size1 r ∧
  (U f (expand r.1) place = U f (expand r.1) (place + 1) → ∀ H', Same H H' → Q .non H') ∧
  (U f (expand r.1) place < U f (expand r.1) (place + 1) → ∀ (H' : Hp) (t : Addr), Same H H' → H t = none → H' t = some (.tup [.int (width f * U f (expand r.1) place), .int (width f * U f (expand r.1) (place + 1) - 1)]) → Q (.ref t) H')
theorem width_pos {n : Nat} {f : Fm} (h : f.Ok n) : 0 < width f := by
  cases f with
  | keep b a => exact Int.zero_lt_one
  | lf b a k c => exact Int.mul_pos h.2.2.1 (by have := h.2.2.2.1; omega)
  | cr b a k => exact h.2.2.1
theorem width_sm {n : Nat} {f : Fm} (h : f.Ok n) (h0 : 0 < n) : Sm (2 * n + 1) (width f) := by
  cases f with
  | keep b a => exact Nat.lt_of_lt_of_le (by decide : (1 : Int).natAbs < 2 ^ 1) (Nat.pow_le_pow_right (by decide) (by omega))
  | lf b a k c =>
    have h1 : Sm (n + 1) (c + 1) := h.2.2.2.2.2.2.2.add (Nat.lt_of_lt_of_le (by decide : (1 : Int).natAbs < 2 ^ 1) (Nat.pow_le_pow_right (by decide) (by omega)))
    exact (h.2.2.2.2.2.2.1.mul h1).mono (by omega)
  | cr b a k => exact h.2.2.2.2.2.mono (by omega)
theorem RnOk.g {n : Nat} {r : List (Int × Int) × Int} (h : RnOk n r) : GOk n r.1 := ⟨(RnOk.sm h).1, h.len⟩
theorem nothing_moved {n : Nat} {gs : List (Int × Int)} (h : GOk n gs) : moved nothing gs = gs := moved_nothing fun x hx => (h.1 x hx).2.1
/-- the place of the run for a place of the result -/
theorem loc_trace {n : Nat} {f : Fm} {r : List (Int × Int) × Int} (h : RnOk n r) (hf : f.Ok n) {u : Int} {at' : Nat} {num ins : Int} (hl : Loc f r.1 u at' num ins) (hu : u < units r f) :
    (∀ x, r.1[at']? = some x → 0 ≤ total (r.1.take at') + num * (x.2 + 1) + (if ins < lft f x.2 then ins else x.2) ∧
      U f (expand r.1) (total (r.1.take at') + num * (x.2 + 1) + (if ins < lft f x.2 then ins else x.2)) ≤ u ∧
      u < U f (expand r.1) (total (r.1.take at') + num * (x.2 + 1) + (if ins < lft f x.2 then ins else x.2) + 1)) ∧
    (at' = r.1.length → 0 ≤ total r.1 + ins ∧ total r.1 + ins < size1 r ∧ U f (expand r.1) (total r.1 + ins) = u ∧ U f (expand r.1) (total r.1 + ins + 1) = u + 1) := by
  have hg : ∀ y ∈ r.1, 0 ≤ y.1 ∧ 0 ≤ y.2 := fun y hy => ⟨((RnOk.g h).1 y hy).1, ((RnOk.g h).1 y hy).2.1⟩
  have tot0 : ∀ gs : List (Int × Int), (∀ y ∈ gs, 0 ≤ y.1 ∧ 0 ≤ y.2) → 0 ≤ total gs := fun gs hh => by
    rw [← szL_expand fun y hy => (hh y hy).1]
    refine szL_0 fun j hj => ?_
    obtain ⟨z, hz, rfl⟩ := expand_mem hj
    exact (hh z hz).2
  rcases hl with ⟨x, hx, n0, n1, i0, i1, e⟩ | ⟨e1, e2, i0, e3⟩
  · refine ⟨fun x' hx' => ?_, fun hh => ?_⟩
    · rw [hx] at hx'
      cases hx'
      obtain ⟨a1, a2⟩ := U_at (f := f) hx hg n0 n1
      have x2 := (hg x (List.mem_of_getElem? hx)).2
      have l0 := lft_0 f x.2
      have l1 := lft_le (f := f) x2 hf.b0.1
      have t0 := tot0 (r.1.take at') fun y hy => hg y (List.mem_of_mem_take hy)
      have m0 : 0 ≤ num * (x.2 + 1) := Int.mul_nonneg n0 (by omega)
      by_cases c : ins < lft f x.2
      · rw [if_pos c, a1 ins i0 (by omega), Int.add_assoc (total (r.1.take at') + num * (x.2 + 1)) ins 1, a1 (ins + 1) (by omega) (by omega)]
        refine ⟨by omega, by omega, by omega⟩
      · rw [if_neg c, a1 x.2 x2 (Int.le_refl _), a2]
        refine ⟨by omega, by omega, by omega⟩
    · have := (List.getElem?_eq_some_iff.mp hx).1
      omega
  · refine ⟨fun x hx => ?_, fun _ => ?_⟩
    · have := (List.getElem?_eq_some_iff.mp hx).1
      omega
    · have t0 := tot0 r.1 hg
      have hlt : ins < r.2 := by
        unfold units at hu
        omega
      rw [U_rest hg i0, Int.add_assoc, U_rest hg (by omega)]
      refine ⟨by omega, by show _ < total r.1 + r.2; omega, by omega, by omega⟩
theorem size_end {n : Nat} {f : Fm} {r : List (Int × Int) × Int} (h : RnOk n r) : U f (expand r.1) (size1 r) = units r f := U_rest (fun y hy => ⟨((RnOk.g h).1 y hy).1, ((RnOk.g h).1 y hy).2.1⟩) h.rest.1
/-- a place that has more units behind it than the whole is none -/
theorem lt_size {n : Nat} {f : Fm} {r : List (Int × Int) × Int} (h : RnOk n r) (hf : f.Ok n) {p u : Int} (hp : 0 ≤ p) (hu : u < units r f) (h1 : U f (expand r.1) p ≤ u) : p < size1 r := by
  refine Int.lt_of_not_ge fun hh => ?_
  have t0 : 0 ≤ size1 r := by
    rw [show size1 r = szL (expand r.1) + r.2 by rw [szL_expand fun x hx => ((RnOk.g h).1 x hx).1]; rfl]
    have := szL_0 (js := expand r.1) fun j hj => by
      obtain ⟨z, hz, rfl⟩ := expand_mem hj
      exact ((RnOk.g h).1 z hz).2.1
    have := h.rest.1
    omega
  have := U_mono (f := f) hf.a0.1 (js := expand r.1) t0 hh
  rw [size_end h] at this
  omega
section
variable {P : Program} {w : World} {K : PySem.W.Frag} {mg : Str → Option Value} {base : Heap}
theorem ok_chp {f : Addr} {fd : FuncData} {k : Nat} (F : Fun K "check_place" "check_place" sCheckPlace f fd) : FnOk P w K mg base CX0 (k + 1) f fd ["place", "total"] spChp := by
  refine F.ok scChp (fun vs H Q E h => ?_) (fun cdv A outer s H vs Q E hr h => ?_)
  · obtain ⟨p, t, rfl, _⟩ := h
    rfl
  · obtain ⟨p, t, rfl, h0, h1, q⟩ := h
    refine ⟨_, (pss_one (ps_if (PW.pt (pw_or (pt_cmpR op_lt (pv 0) pe_int (nomark _)) (pw_or1 (pt_cmpR op_ge (pv 0) (pv 1) (nomark _)))))
          (pss_one ps_never) pss_nil)), ?_⟩
    refine ⟨_, rfl, _, _, rfl, rfl, _, rfl, ?_⟩
    rw [decide_eq_false (by omega : ¬ p < 0)]
    refine iteF ⟨_, rfl, _, rfl, _, _, rfl, rfl, _, rfl, ?_⟩
    rw [decide_eq_false (by omega : ¬ t ≤ p)]
    exact iteF q
theorem ok_wid {f : Addr} {fd : FuncData} {k : Nat} (F : Fun K "characters_of_unit" "characters_of_unit" sCharactersOfUnit f fd) : FnOk P w K mg base CX0 (k + 1) f fd ["wanted"] (spWid K) := by
  refine F.ok scWid (fun vs H Q E h => ?_) (fun cdv A outer s H vs Q E hr h => ?_)
  · obtain ⟨y, f, n, rfl, _⟩ := h
    rfl
  · obtain ⟨_, f, n, rfl, ⟨p, rfl, hT⟩, hf, hn0, hn, q⟩ := h
    refine ⟨_, (pss_cons (ps_if (pt_cmpR op_eq (pe_ix ix_tup (pv 0) pe_int (fun _ _ => rfl)) pe_str (nomark _))
          (pss_one (ps_ret pe_int)) pss_nil)
      (pss_cons (ps_if (pt_cmpR op_eq (pe_ix ix_tup (pv 0) pe_int (fun _ _ => rfl)) pe_str (nomark _))
          (pss_one (ps_ret (pe_ix ix_tup (pv 0) pe_int (fun _ _ => rfl)))) pss_nil)
      (pss_one (ps_ret (pe_op op_mulW (pe_ix ix_tup (pv 0) pe_int (fun _ _ => rfl)) (pe_op op_add (pe_ix ix_tup (pv 0) pe_int (fun _ _ => rfl)) pe_int)))))), ?_⟩
    refine ⟨_, rfl, p, _, 0, _, rfl, rfl, hT, atI_nat (j := 0) f.vs0, rfl, _, rfl, ?_⟩
    cases f with
    | keep b a => exact iteT q
    | cr b a k' => exact iteF ⟨_, rfl, p, _, 0, _, rfl, rfl, hT, atI_nat (j := 0) rfl, rfl, _, rfl, iteT ⟨_, rfl, p, _, 3, _, rfl, rfl, hT, atI_nat (j := 3) rfl, q⟩⟩
    | lf b a k' c =>
      have h1 : Sm (n + 1) (c + 1) := hf.2.2.2.2.2.2.2.add (Nat.lt_of_lt_of_le (by decide : (1 : Int).natAbs < 2 ^ 1) (Nat.pow_le_pow_right (by decide) (by omega)))
      exact iteF ⟨_, rfl, p, _, 0, _, rfl, rfl, hT, atI_nat (j := 0) rfl, rfl, _, rfl, iteF ⟨_, rfl, p, _, 3, _, rfl, rfl, hT, atI_nat (j := 3) rfl, _, rfl, p, _, 4, _, rfl, rfl, hT, atI_nat (j := 4) rfl, _, _, rfl, rfl, _, _, rfl, rfl, wide_mul hf.2.2.2.2.2.2.1 h1 hn0 (by omega) (by omega), q⟩⟩
theorem ok_lens {f aU : Addr} {fd dU : FuncData} {k : Nat} (F : Fun K "lengths_after" "lengths_after" sLengthsAfter f fd)
    (cU : Cl P w K mg base k "units_of_group" ["j", "wanted"] (spUog K) aU dU) : FnOk P w K mg base CX0 (k + 1) f fd ["groups", "wanted"] (spLens K) := by
  refine F.ok scLen (fun vs H Q E h => ?_) (fun cdv A outer s H vs Q E hr h => ?_)
  · obtain ⟨l, y, gs, f, rfl, _⟩ := h
    rfl
  · obtain ⟨l, y, gs, f, rfl, ⟨xs, hL, hP⟩, hy, hl, q⟩ := h
    refine ⟨_, (pss_one (ps_ret (pe_op op_cat (pe_lc (own := [("_", 2), ("j", 3)]) (g := (gTup K 2 (gCons (gName 2) (gCons (gName 3) gNil)))) (tt := tYes) rfl scLen.nd (pi_list (pv 0)) (blkOk_by (own := [("_", 2), ("j", 3)]) (N := ["groups", "wanted", "_", "j"]) (sc := defScope sLengthsAfter) (by decide +kernel)) (fun _ _ _ _ _ => (pg_tup (by rfl) (pgs_cons (pg_name (i := 2) scLen.nd rfl (.inl rfl)) (pgs_cons (pg_name (i := 3) scLen.nd rfl (.inl rfl)) pgs_nil)))) (fun _ _ _ _ _ => pts_nil) (fun _ _ _ _ _ => (pe_call cU.G hr (by rfl) cU.g cU.kp cU.b .nil pass0 (pa_cons (pv 3) (pa_cons (pv 1) pa_nil))))) (pe_lst (pa_cons pe_int pa_nil))))), ?_⟩
    refine ⟨_, rfl, l, rfl, ⟨_, hL⟩, fun D nD => ?_⟩
    refine lc_it (walk_list (xs := xs)) (fun i H' => Same H H' ∧ H' D = some (.lst (((gs.take i).map fun x => f.after x.2 + 1).map V.int))) ⟨same_upd nD, upd_same⟩ (fun i H' _ hQ => hQ.1.seq hL) ?_ ?_
    · rintro i u H1 H2 hi ⟨sm, hD⟩ ⟨rfl, hu⟩
      obtain ⟨x, hx, a, rfl, ha'⟩ := hP.get hu
      have ha : SqT K H a [.int x.1, .int x.2] := .inl (.inl ha')
      refine ⟨a, _, rfl, sameT sm ha, rfl, _, _, rfl, _, _, rfl, rfl, rfl, ?_⟩
      refine ⟨_, rfl, _, rfl, x.2, y, f, rfl, hy.same sm, ?_⟩
      refine ⟨_, hD, ?_, Same.own sm nD, ?_⟩
      · rw [List.length_map, List.length_map, List.length_take, sizeLine_eq]
        omega
      · rw [upd_same, List.take_succ, hx, List.map_append, List.map_append]
        rfl
    · rintro H1 ⟨sm, hD⟩
      rw [List.take_of_length_le (by rw [← hP.len]; exact Nat.le_refl _)] at hD
      refine ⟨by show 1 ≤ sizeLine; decide, fun p2 n2 => ?_⟩
      have s2 := same_upd (o := .lst [.int 0]) n2
      refine ⟨D, p2, _, _, rfl, rfl, s2 _ _ hD, upd_same, by rw [List.length_map, List.length_map, sizeLine_eq]; show _ + 1 ≤ _; omega, fun p3 n3 => ?_⟩
      refine q _ _ ((sm.trans s2).trans (same_upd n3)) ?_
      rw [upd_same]
      unfold lens
      rw [List.map_append]
      rfl
theorem ok_loc {f : Addr} {fd : FuncData} {k : Nat} (F : Fun K "located" "located" sLocated f fd) (Z : LoF mg) : FnOk P w K mg base CX0 (k + 1) f fd ["groups", "lengths", "place"] (spLoc K) := by
  refine F.ok scLoc (fun vs H Q E h => ?_) (fun cdv A outer s H vs Q E hr h => ?_)
  · obtain ⟨l, q0, place, gs, f, n, rfl, _⟩ := h
    rfl
  · obtain ⟨l, q0, place, gs, f, n, rfl, ⟨xs, hL, hP⟩, hq0, hg, hf, hn0, hn, hp0, q⟩ := h
    refine ⟨_, (pss_cons (ps_for PassesOwn.never rfl (pi_enum rfl Z.enumerate (pa_cons (pv 0) pa_nil)) (pg_tup (by rfl) (pgs_cons (pg_name (i := 3) scLoc.nd rfl (.inl rfl)) (pgs_cons (pg_tup (by rfl) (pgs_cons (pg_name (i := 4) scLoc.nd rfl (.inl rfl)) (pgs_cons (pg_name (i := 5) scLoc.nd rfl (.inl rfl)) pgs_nil))) pgs_nil)))
          (pss_cons (ps_if (pt_cmpR op_lt (pv 2) (pe_op op_mulW (pv 4) (pe_ix ix_list (pv 1) (pv 3) (fun _ _ => rfl))) (nomark _))
              (pss_cons (ps_asg (pe_callB call_divmodW (by rfl) Z.divmod (by decide +kernel) (pa_cons (pv 2) (pa_cons (pe_ix ix_list (pv 1) (pv 3) (fun _ _ => rfl)) pa_nil))) (pg_tup (by rfl) (pgs_cons (pg_name (i := 6) scLoc.nd rfl (.inl rfl)) (pgs_cons (pg_name (i := 7) scLoc.nd rfl (.inl rfl)) pgs_nil))))
              (pss_one (ps_ret (pe_tup (pa_cons (pv 3) (pa_cons (pv 6) (pa_cons (pv 7) pa_nil))))))) pss_nil)
          (pss_one (ps_aug (i := 2) scLoc.nd rfl (.inl rfl) (pe_op op_mulW (pv 4) (pe_ix ix_list (pv 1) (pv 3) (fun _ _ => rfl))) ip_sub))))
      (pss_one (ps_ret (pe_tup (pa_cons (pe_callB call_len_seq (by rfl) Z.len PySem.boot_len (pa_cons (pv 0) pa_nil)) (pa_cons pe_int (pa_cons (pv 2) pa_nil))))))), ?_⟩
    refine ⟨_, rfl, l, xs, rfl, hL, ?_⟩
    refine for_it (walk_enum (xs := xs)) (fun i σ H' => Same H H' ∧ ∃ y3 y4 y5 y6 y7, σ = [some (.ref l), some (.ref q0), some (.int (place - total (moved f (gs.take i)))), y3, y4, y5, y6, y7] ∧ 0 ≤ place - total (moved f (gs.take i)))
      ⟨Same.refl H, none, none, none, none, none, by show [_, _, some (V.int place), _, _, _, _, _] = _; rw [show place - total (moved f (gs.take 0)) = place by show place - 0 = place; omega], by show 0 ≤ place - 0; omega⟩ (fun i σ H' _ hP => hP.1.seq hL) ?_ ?_
    · rintro i v σ H1 H2 hi ⟨sm, y3, y4, y5, y6, y7, rfl, h0⟩ ⟨T, u1, u2, rfl, nT, rfl, h1, h2⟩
      cases Option.some.inj h1
      obtain ⟨x, hx, p2, rfl, hp2'⟩ := hP.get h2
      have hp2 : SqT K H p2 [.int x.1, .int x.2] := .inl (.inl hp2')
      have s2 := sm.trans (same_upd (o := .tup [.int (i : Nat), .ref p2]) nT)
      obtain ⟨o1, o2, o3, o4⟩ := hg.1 x (List.mem_of_getElem? hx)
      obtain ⟨l1, l2⟩ := ln_ok hf o2 o4
      have ht := tot_take (f := f) hx
      have hq2 := s2 _ _ hq0
      have hln : ((lens f gs).map V.int)[i]? = some (V.int (f.after x.2 + 1)) := by rw [List.getElem?_map, lens_at hx]; rfl
      have hmul : CMulW x.1 (f.after x.2 + 1) := wide_mul o3 l2 hn0 (by omega) (by omega)
      refine ⟨T, _, rfl, .inl (.inl upd_same), rfl, _, _, rfl, _, _, rfl, p2, _, rfl, sameT s2 hp2, rfl, _, _, rfl, _, _, rfl, rfl, rfl, ?_⟩
      refine ⟨_, rfl, _, rfl, _, rfl, _, rfl, q0, _, i, _, rfl, rfl, .inl (.inl hq2), atI_nat hln, _, _, rfl, rfl, hmul, _, _, rfl, rfl, _, rfl, ?_⟩
      generalize hpl : place - total (moved f (gs.take i)) = pl at h0
      generalize hlne : f.after x.2 + 1 = ln at *
      refine ite2 (fun c => ?_) (fun c => ?_)
      · have c' : pl < x.1 * ln := of_decide_eq_true c
        have hd : CDivP pl ln := ⟨by omega, PyProof.noPylong_of_log2 (Nat.lt_of_lt_of_le (PySem.Flt.log2_lt_of (by omega : 0 < n + 2) l2) (by omega))⟩
        refine ⟨_, rfl, _, rfl, _, rfl, q0, _, i, _, rfl, rfl, .inl (.inl hq2), atI_nat hln, _, _, rfl, hd, fun t nt => ?_⟩
        have s3 := s2.trans (same_upd (o := .tup [.int (pl / ln), .int (pl % ln)]) nt)
        refine ⟨t, _, rfl, .inl (.inl upd_same), rfl, _, _, rfl, _, _, rfl, rfl, ?_⟩
        refine ⟨_, rfl, _, rfl, _, rfl, by show 3 ≤ sizeLine; decide, fun t2 nt2 => ?_⟩
        refine q _ _ i (pl / ln) (pl % ln) (s3.trans (same_upd nt2)) upd_same (.inl ⟨x, hx, Int.ediv_nonneg h0 (by omega), Int.ediv_lt_of_lt_mul (by omega) c', Int.emod_nonneg _ (by omega), ?_, ?_⟩)
        · rw [hlne]
          exact Int.emod_lt_of_pos _ (by omega)
        · have := Int.mul_ediv_add_emod pl ln
          rw [hlne]
          rw [Int.mul_comm] at this
          omega
      · have c' : ¬ pl < x.1 * ln := fun h => c (decide_eq_true h)
        refine ⟨_, rfl, _, rfl, _, rfl, _, rfl, q0, _, i, _, rfl, rfl, .inl (.inl hq2), atI_nat hln, _, _, rfl, rfl, hmul, _, _, rfl, rfl, ?_⟩
        refine ⟨s2, some (.int (i : Nat)), some (.int x.1), some (.int x.2), y6, y7, ?_, by omega⟩
        show [_, _, some (V.int (pl - x.1 * ln)), _, _, _, _, _] = _
        rw [show place - total (moved f (gs.take (i + 1))) = pl - x.1 * ln by omega]
    · rintro σ H1 ⟨sm, y3, y4, y5, y6, y7, rfl, h0⟩
      have htk : gs.take xs.length = gs := List.take_of_length_le (by rw [← hP.len]; exact Nat.le_refl _)
      rw [htk] at h0 ⊢
      refine ⟨_, rfl, l, _, rfl, .inl (sm.seq hL), _, rfl, by show 3 ≤ sizeLine; decide, fun t nt => ?_⟩
      refine q _ _ gs.length 0 _ (sm.trans (same_upd nt)) ?_ (.inr ⟨rfl, rfl, h0, by omega⟩)
      rw [upd_same, hP.len]
theorem ok_sta {f : Addr} {fd : FuncData} {k : Nat} (F : Fun K "start_of" "start_of" sStartOf f fd) (Z : StF mg) : FnOk P w K mg base CX0 (k + 1) f fd ["groups", "lengths", "at", "number"] (spSta K) := by
  refine F.ok scSta (fun vs H Q E h => ?_) (fun cdv A outer s H vs Q E hr h => ?_)
  · obtain ⟨l, q0, at', num, gs, f, n, ln, rfl, _⟩ := h
    rfl
  · obtain ⟨l, q0, at', num, gs, f, n, ln, rfl, ⟨xs, hL, hP⟩, hq0, hg, hf, hn0, hn, hln, hnum, q⟩ := h
    refine ⟨_, (pss_cons (ps_setLc (i := 4) (own := [("length", 5), ("many", 6), ("_", 7)]) (g := (gTup K 2 (gCons (gTup K 2 (gCons (gName 6) (gCons (gName 7) gNil))) (gCons (gName 5) gNil)))) (tt := tYes) rfl scSta.nd rfl rfl (sw_true rfl rfl rfl (by decide +kernel)) (pi_zip (by rfl) Z.zip (pa_cons (pv 0) (pa_cons (pv 1) pa_nil))) (blkOk_by (own := [("length", 5), ("many", 6), ("_", 7)]) (N := ["groups", "lengths", "at", "number", "before", "length", "many", "_"]) (sc := defScope sStartOf) (by decide +kernel)) (fun _ _ _ _ _ => (pg_tup (by rfl) (pgs_cons (pg_tup (by rfl) (pgs_cons (pg_name (i := 6) scSta.nd rfl (.inl rfl)) (pgs_cons (pg_name (i := 7) scSta.nd rfl (.inl rfl)) pgs_nil))) (pgs_cons (pg_name (i := 5) scSta.nd rfl (.inl rfl)) pgs_nil)))) (fun _ _ _ _ _ => pts_nil) (fun _ _ _ _ _ => (pe_op op_mulW (pv 6) (pv 5))))
      (pss_one (ps_ret (pe_op op_add (pe_callB (cr_sum rfl) (by rfl) Z.sum (by decide +kernel) (pa_cons (pe_slice sl_list (pv 4) po_none (po_some (pv 2))) pa_nil)) (pe_op op_mulW (pv 3) (pe_ix ix_list (pv 1) (pv 2) (fun _ _ => rfl))))))), ?_⟩
    have hlen : xs.length = gs.length := hP.len
    refine ⟨_, rfl, _, rfl, l, q0, _, _, rfl, hL, .inl (.inl hq0), fun D nD => ?_⟩
    refine lc_it (walk_zip (n := xs.length) (xs := xs) (ys := (lens f gs).map V.int) (by rw [List.length_map, lens_len]; omega)) (fun i H' => Same H H' ∧ H' D = some (.lst (((gs.take i).map fun x => x.1 * (f.after x.2 + 1)).map V.int))) ⟨same_upd nD, upd_same⟩ (fun i H' _ hQ => ⟨hQ.1.seq hL, .inl (.inl (hQ.1 _ _ hq0))⟩) ?_ ?_
    · rintro i u H1 H2 hi ⟨sm, hD⟩ ⟨T, u1, u2, rfl, nT, rfl, h1, h2⟩
      obtain ⟨x, hx, p2, rfl, hp2'⟩ := hP.get h1
      replace h2 : ((lens f gs).map V.int)[i]? = some u2 := h2
      rw [List.getElem?_map, lens_at hx] at h2
      cases Option.some.inj h2
      obtain ⟨o1, o2, o3, o4⟩ := hg.1 x (List.mem_of_getElem? hx)
      obtain ⟨l1, l2⟩ := ln_ok hf o2 o4
      have s2 := sm.trans (same_upd (o := .tup [.ref p2, .int (f.after x.2 + 1)]) nT)
      have hp2 : SqT K H p2 [.int x.1, .int x.2] := .inl (.inl hp2')
      refine ⟨T, _, rfl, .inl (.inl upd_same), rfl, _, _, rfl, p2, _, rfl, sameT s2 hp2, rfl, _, _, rfl, _, _, rfl, rfl, _, _, rfl, rfl, rfl, ?_⟩
      refine ⟨_, rfl, _, rfl, _, _, rfl, rfl, wide_mul o3 l2 hn0 (by omega) (by omega), ?_⟩
      refine ⟨_, same_upd nT _ _ hD, ?_, Same.own s2 nD, ?_⟩
      · have := hg.2
        rw [List.length_map, List.length_map, List.length_take, sizeLine_eq]
        omega
      · rw [upd_same, List.take_succ, hx, List.map_append, List.map_append]
        rfl
    · rintro H1 ⟨sm, hD⟩
      rw [List.take_of_length_le (by rw [← hP.len]; exact Nat.le_refl _)] at hD
      refine ⟨_, rfl, _, rfl, (at' : Int), rfl, D, _, rfl, .inl (.inl hD), fun p np => ?_⟩
      have s2 := sm.trans (same_upd (o := .lst (cutV ((gs.map fun x => x.1 * (f.after x.2 + 1)).map V.int) none (some (at' : Int)))) np)
      have hpp : upd H1 p (.lst (cutV ((gs.map fun x => x.1 * (f.after x.2 + 1)).map V.int) none (some (at' : Int)))) p = some (.lst (((gs.take at').map fun x => x.1 * (f.after x.2 + 1)).map V.int)) := by
        rw [upd_same, cutV_take, ← List.map_take, ← List.map_take]
      have hsm : Sm (n + 2) ln := by
        rcases Nat.lt_or_ge at' gs.length with hlt | hge
        · have hx := List.getElem?_eq_getElem hlt
          rw [lens_at hx] at hln
          cases Option.some.inj hln
          obtain ⟨o1, o2, o3, o4⟩ := hg.1 _ (List.mem_of_getElem? hx)
          exact (ln_ok hf o2 o4).2
        · have hl2 := (List.getElem?_eq_some_iff.mp hln).1
          rw [lens_len] at hl2
          have : at' = gs.length := by omega
          subst this
          rw [lens_end] at hln
          cases Option.some.inj hln
          exact Nat.two_pow_pos _
      refine ⟨p, _, rfl, .inl (.inl hpp), ?_⟩
      refine ⟨_, rfl, _, rfl, _, rfl, q0, _, at', _, rfl, rfl, .inl (.inl (s2 _ _ hq0)), atI_nat (j := at') (by rw [List.getElem?_map, hln]; rfl), _, _, rfl, rfl, wide_mul hnum hsm hn0 (by omega) (by omega), _, _, rfl, rfl, ?_⟩
      rw [sum_mapV]
      exact q _ s2
theorem ok_ret {f : Addr} {fd : FuncData} {k : Nat} (F : Fun K "returns_left" "returns_left" sReturnsLeft f fd) (Z : MxF mg) : FnOk P w K mg base CX0 (k + 1) f fd ["j", "wanted"] (spRet K) := by
  refine F.ok scRet (fun vs H Q E h => ?_) (fun cdv A outer s H vs Q E hr h => ?_)
  · obtain ⟨j, y, f, rfl, _⟩ := h
    rfl
  · obtain ⟨j, _, f, rfl, ⟨p, rfl, hT⟩, q⟩ := h
    refine ⟨_, (pss_one (ps_ret (pe_callB (call_max2 rfl) (by rfl) Z.max (by decide +kernel) (pa_cons pe_int (pa_cons (pe_op op_sub (pv 0) (pe_ix ix_tup (pv 1) pe_int (fun _ _ => rfl))) pa_nil))))), ?_⟩
    exact ⟨_, rfl, _, rfl, p, _, 1, _, rfl, rfl, hT, atI_nat (j := 1) f.vs1, _, _, rfl, rfl, _, _, rfl, q⟩
theorem ok_ori {f aR : Addr} {fd dR : FuncData} {k : Nat} (F : Fun K "origin_in_group" "origin_in_group" sOriginInGroup f fd)
    (cR : Cl P w K mg base k "returns_left" ["j", "wanted"] (spRet K) aR dR) : FnOk P w K mg base CX0 (k + 1) f fd ["j", "wanted", "unit"] (spOri K) := by
  refine F.ok scOri (fun vs H Q E h => ?_) (fun cdv A outer s H vs Q E hr h => ?_)
  · obtain ⟨j, y, f, u, rfl, _⟩ := h
    rfl
  · obtain ⟨j, y, f, u, rfl, hy, q⟩ := h
    refine ⟨_, (pss_one (ps_ret (pe_ifExp (pt_cmpR op_lt (pv 2) (pe_call cR.G hr (by rfl) cR.g cR.kp cR.b .nil pass0 (pa_cons (pv 0) (pa_cons (pv 1) pa_nil))) (nomark _)) (pv 2) (pv 0)))), ?_⟩
    refine ⟨_, rfl, _, rfl, _, rfl, j, y, f, rfl, hy, _, _, rfl, rfl, _, rfl, ite2 (fun c => ?_) (fun c => ?_)⟩
    · rw [if_pos (of_decide_eq_true c)] at q
      exact ⟨_, rfl, q⟩
    · rw [if_neg (fun h => c (decide_eq_true h))] at q
      exact ⟨_, rfl, q⟩
theorem ok_uig {f aR : Addr} {fd dR : FuncData} {k : Nat} (F : Fun K "units_in_group" "units_in_group" sUnitsInGroup f fd) (Z : MnF mg)
    (cR : Cl P w K mg base k "returns_left" ["j", "wanted"] (spRet K) aR dR) : FnOk P w K mg base CX0 (k + 1) f fd ["j", "wanted", "place"] (spUig K) := by
  refine F.ok scUig (fun vs H Q E h => ?_) (fun cdv A outer s H vs Q E hr h => ?_)
  · obtain ⟨j, y, f, p, rfl, _⟩ := h
    rfl
  · obtain ⟨j, _, f, p, rfl, ⟨a, rfl, hT⟩, q⟩ := h
    refine ⟨_, (pss_cons (ps_set (i := 3) scUig.nd rfl (.inl rfl) (pe_call cR.G hr (by rfl) cR.g cR.kp cR.b .nil pass0 (pa_cons (pv 0) (pa_cons (pv 1) pa_nil))))
      (pss_cons (ps_if (pt_cmpR op_eq (pv 2) (pv 0) (nomark _))
          (pss_one (ps_ret (pe_tup (pa_cons (pv 3) (pa_cons (pe_op op_add (pv 3) (pe_ix ix_tup (pv 1) pe_int (fun _ _ => rfl))) pa_nil))))) pss_nil)
      (pss_one (ps_ret (pe_tup (pa_cons (pv 2) (pa_cons (pe_callB (call_min2 rfl) (by rfl) Z.min (by decide +kernel) (pa_cons (pv 2) (pa_cons (pe_op op_sub (pv 3) pe_int) pa_nil))) pa_nil))))))), ?_⟩
    refine ⟨_, rfl, _, rfl, j, _, f, rfl, ⟨a, rfl, hT⟩, ?_⟩
    refine ⟨_, rfl, _, rfl, rfl, _, rfl, ?_⟩
    by_cases c : p = j
    · subst c
      rw [decide_eq_true rfl]
      refine iteT ⟨_, rfl, _, rfl, _, rfl, a, _, 2, _, rfl, rfl, hT, atI_nat (j := 2) f.vs2, _, _, rfl, rfl, by show 2 ≤ sizeLine; decide, fun t nt => ?_⟩
      rw [if_pos rfl, if_pos rfl] at q
      exact q _ _ (same_upd nt) upd_same
    · rw [decide_eq_false (fun h => c (V.int.inj h))]
      refine iteF ⟨_, rfl, _, rfl, _, rfl, _, _, rfl, rfl, _, _, rfl, by show 2 ≤ sizeLine; decide, fun t nt => ?_⟩
      rw [if_neg c, if_neg c] at q
      exact q _ _ (same_upd nt) upd_same
end
end Lw
namespace Lw
open PySem PySem.Spec L2 Lx
theorem nothing_after {j : Int} (h : 0 ≤ j) : nothing.after j = j := by
  show (if j - 0 > 0 then j - 0 else 0) + 0 = j
  have := pp (j - 0)
  omega
theorem nothing_okT (n : Nat) : nothing.Ok n := ⟨by decide, by decide, Nat.two_pow_pos _, Nat.two_pow_pos _⟩
theorem size_nothing {n : Nat} {r : List (Int × Int) × Int} (h : RnOk n r) : units r nothing = size1 r := (units_nothing (RnOk.sm h)).symm
theorem Loc.le {f : Fm} {gs : List (Int × Int)} {u : Int} {at' : Nat} {num ins : Int} (h : Loc f gs u at' num ins) : at' ≤ gs.length := by
  rcases h with ⟨x, hx, _⟩ | ⟨e, _⟩
  · have := (List.getElem?_eq_some_iff.mp hx).1
    omega
  · omega
theorem Loc.num {n : Nat} {f : Fm} {gs : List (Int × Int)} {u : Int} {at' : Nat} {num ins : Int} (hg : GOk n gs) (h : Loc f gs u at' num ins) : Sm n num := by
  rcases h with ⟨x, hx, n0, n1, _⟩ | ⟨_, e, _⟩
  · exact Sm.of_le n0 (Int.le_of_lt n1) (hg.1 x (List.mem_of_getElem? hx)).2.2.1
  · rw [e]
    exact Nat.two_pow_pos _
/-- units of a place, by where it is located -/
theorem loc_off {n : Nat} {f : Fm} {r : List (Int × Int) × Int} (h : RnOk n r) (hf : f.Ok n) {p : Int} {at' : Nat} {num ins : Int} (hl : Loc nothing r.1 p at' num ins) :
    (∀ x, r.1[at']? = some x → ∀ S, S = total (moved f (r.1.take at')) + num * (f.after x.2 + 1) → ∀ a b, a = (if ins = x.2 then lft f x.2 else ins) → b = (if ins = x.2 then lft f x.2 + f.a else (if lft f x.2 - 1 < ins then lft f x.2 - 1 else ins)) →
      (a ≤ b → U f (expand r.1) p = S + a ∧ U f (expand r.1) (p + 1) = S + b + 1) ∧ (b < a → U f (expand r.1) p = U f (expand r.1) (p + 1))) ∧
    (at' = r.1.length → num = 0 ∧ U f (expand r.1) p = total (moved f r.1) + ins ∧ U f (expand r.1) (p + 1) = total (moved f r.1) + ins + 1) := by
  have hg : ∀ y ∈ r.1, 0 ≤ y.1 ∧ 0 ≤ y.2 := fun y hy => ⟨((RnOk.g h).1 y hy).1, ((RnOk.g h).1 y hy).2.1⟩
  rcases hl with ⟨x, hx, n0, n1, i0, i1, e⟩ | ⟨e1, e2, i0, e3⟩
  · refine ⟨fun x' hx' S eS a b ea eb => ?_, fun hh => ?_⟩
    · rw [hx] at hx'
      cases hx'
      have x2 := (hg x (List.mem_of_getElem? hx)).2
      rw [nothing_moved ((RnOk.g h).take at'), nothing_after x2] at e
      rw [nothing_after x2] at i1
      obtain ⟨a1, a2⟩ := U_at (f := f) hx hg n0 n1
      have l0 := lft_0 f x.2
      have l1 := lft_le (f := f) x2 hf.b0.1
      have fa := hf.a0.1
      by_cases c : ins = x.2
      · rw [if_pos c] at ea eb
        subst c
        rw [e, a1 x.2 x2 (Int.le_refl _), a2, after_lft]
        rw [after_lft] at eS
        refine ⟨fun _ => ⟨by omega, by omega⟩, fun hh => by omega⟩
      · rw [if_neg c] at ea eb
        have b1 := a1 ins i0 (by omega)
        have b2 := a1 (ins + 1) (by omega) (by omega)
        rw [← Int.add_assoc] at b2
        rw [e, b1, b2]
        by_cases d : lft f x.2 - 1 < ins
        · rw [if_pos d] at eb
          refine ⟨fun hh => by omega, fun _ => by omega⟩
        · rw [if_neg d] at eb
          refine ⟨fun _ => ⟨by omega, by omega⟩, fun hh => by omega⟩
    · have := (List.getElem?_eq_some_iff.mp hx).1
      omega
  · refine ⟨fun x hx => ?_, fun _ => ?_⟩
    · have := (List.getElem?_eq_some_iff.mp hx).1
      omega
    · rw [nothing_moved (RnOk.g h)] at e3
      subst e3
      rw [U_rest hg i0, Int.add_assoc (total r.1), U_rest hg (by omega)]
      refine ⟨e2, rfl, by omega⟩
section
variable {P : Program} {w : World} {K : PySem.W.Frag} {mg : Str → Option Value} {base : Heap}
theorem ok_tra {f aN aR aF aW aP aU aL aA aS aO : Addr} {fd dR dF dW dP dU dL dA dS dO : FuncData} {k : Nat} (F : Fun K "trace" "trace" sTrace f fd) (Z : LeF mg)
    (gN : mg "NOTHING" = some (.ref aN)) (tN : ∀ H : Hp, FmAt K H (.ref aN) nothing)
    (cR : Cl P w K mg base k "check_run" ["run"] (spChkRun K) aR dR)
    (cF : Cl P w K mg base k "check_form" ["wanted"] (spChkForm K) aF dF)
    (cW : Cl P w K mg base k "characters_of_unit" ["wanted"] (spWid K) aW dW)
    (cP : Cl P w K mg base k "check_place" ["place", "total"] spChp aP dP)
    (cU : Cl P w K mg base k "units" ["run", "wanted"] (spUnits K) aU dU)
    (cL : Cl P w K mg base k "located" ["groups", "lengths", "place"] (spLoc K) aL dL)
    (cA : Cl P w K mg base k "lengths_after" ["groups", "wanted"] (spLens K) aA dA)
    (cS : Cl P w K mg base k "start_of" ["groups", "lengths", "at", "number"] (spSta K) aS dS)
    (cO : Cl P w K mg base k "origin_in_group" ["j", "wanted", "unit"] (spOri K) aO dO) : FnOk P w K mg base CX0 (k + 1) f fd ["run", "wanted", "place"] (spTra K) := by
  refine F.ok scTra (fun vs H Q E h => ?_) (fun cdv A outer s H vs Q E hr h => ?_)
  · obtain ⟨x, y, l, r, f, n, place, rfl, _⟩ := h
    rfl
  · obtain ⟨x, y, l, r, f, n, place, rfl, hx, hy, ho, hf, hn0, hn, p0, p1, q⟩ := h
    refine ⟨_, (pss_cons (ps_expr (pe_call cR.G hr (by rfl) cR.g cR.kp cR.b .nil pass0 (pa_cons (pv 0) pa_nil)))
      (pss_cons (ps_expr (pe_call cF.G hr (by rfl) cF.g cF.kp cF.b .nil pass0 (pa_cons (pv 1) pa_nil)))
      (pss_cons (ps_set (i := 3) scTra.nd rfl (.inl rfl) (pe_call cW.G hr (by rfl) cW.g cW.kp cW.b .nil pass0 (pa_cons (pv 1) pa_nil)))
      (pss_cons (ps_expr (pe_call cP.G hr (by rfl) cP.g cP.kp cP.b .nil pass0 (pa_cons (pv 2) (pa_cons (pe_op op_mulW (pe_call cU.G hr (by rfl) cU.g cU.kp cU.b .nil pass0 (pa_cons (pv 0) (pa_cons (pv 1) pa_nil))) (pv 3)) pa_nil))))
      (pss_cons (ps_asg (pv 0) (pg_tup (by rfl) (pgs_cons (pg_name (i := 4) scTra.nd rfl (.inl rfl)) (pgs_cons (pg_name (i := 5) scTra.nd rfl (.inl rfl)) pgs_nil))))
      (pss_cons (ps_asg (pe_call cL.G hr (by rfl) cL.g cL.kp cL.b .nil pass0 (pa_cons (pv 4) (pa_cons (pe_call cA.G hr (by rfl) cA.g cA.kp cA.b .nil pass0 (pa_cons (pv 4) (pa_cons (pv 1) pa_nil))) (pa_cons (pe_op op_fdivW (pv 2) (pv 3)) pa_nil)))) (pg_tup (by rfl) (pgs_cons (pg_name (i := 6) scTra.nd rfl (.inl rfl)) (pgs_cons (pg_name (i := 7) scTra.nd rfl (.inl rfl)) (pgs_cons (pg_name (i := 8) scTra.nd rfl (.inl rfl)) pgs_nil)))))
      (pss_cons (ps_set (i := 9) scTra.nd rfl (.inl rfl) (pe_call cS.G hr (by rfl) cS.g cS.kp cS.b .nil pass0 (pa_cons (pv 4) (pa_cons (pe_call cA.G hr (by rfl) cA.g cA.kp cA.b .nil pass0 (pa_cons (pv 4) (pa_cons (pe_glob (v := .ref aN) rfl gN rfl) pa_nil))) (pa_cons (pv 6) (pa_cons (pv 7) pa_nil))))))
      (pss_cons (ps_if (pt_cmpR op_lt (pv 6) (pe_callB call_len_seq (by rfl) Z.len PySem.boot_len (pa_cons (pv 4) pa_nil)) (nomark _))
          (pss_one (ps_ret (pe_op op_add (pv 9) (pe_call cO.G hr (by rfl) cO.g cO.kp cO.b .nil pass0 (pa_cons (pe_ix ix_tup (pe_ix ix_list (pv 4) (pv 6) (fun _ _ => rfl)) pe_int (fun _ _ => rfl)) (pa_cons (pv 1) (pa_cons (pv 8) pa_nil))))))) pss_nil)
      (pss_one (ps_ret (pe_op op_add (pv 9) (pv 8)))))))))))), ?_⟩
    have hu := units_ok (RnOk.sm ho) hf
    have hw := width_sm hf hn0
    have hw0 := width_pos hf
    have hg := RnOk.g ho
    refine ⟨_, rfl, x, l, r, n, rfl, hx, ho, fun H1 s1 => ⟨_, rfl, y, f, n, rfl, hy.same s1, hf, fun H2 s2 => ?_⟩⟩
    have s12 := s1.trans s2
    refine ⟨_, rfl, y, f, n, rfl, hy.same s12, hf, hn0, by omega, ?_⟩
    refine ⟨_, rfl, _, rfl, _, rfl, x, l, r, y, f, n, rfl, hx.same s12, hy.same s12, RnOk.sm ho, hf, by omega, fun H3 s3 => ?_⟩
    refine ⟨_, rfl, _, _, rfl, rfl, wide_mul hu.2 hw (by omega) (by omega) (by omega), _, _, rfl, p0, by rw [Int.mul_comm]; exact p1, ?_⟩
    have sA := s12.trans s3
    obtain ⟨p, rfl, hT, xs, hL, hP⟩ := hx.same sA
    have hGs : GsAt K H3 l r.1 := ⟨xs, hL, hP⟩
    refine ⟨_, rfl, p, _, rfl, hT, rfl, _, _, rfl, _, _, rfl, rfl, ?_⟩
    refine ⟨_, rfl, _, rfl, _, rfl, l, y, r.1, f, rfl, hGs, hy.same sA, ho.len, fun q0 H4 s4 hq0 => ?_⟩
    refine ⟨_, rfl, _, rfl, _, _, rfl, rfl, wide_div hw0 hw (by omega) (by omega), ?_⟩
    refine ⟨l, q0, _, r.1, f, n, rfl, hGs.same s4, hq0, hg, hf, hn0, hn, Int.ediv_nonneg p0 (by omega), fun t H5 at' num ins s5 ht hloc => ?_⟩
    refine ⟨t, _, rfl, .inl (.inl ht), rfl, _, _, rfl, _, _, rfl, _, _, rfl, rfl, ?_⟩
    have s45 := s4.trans s5
    refine ⟨_, rfl, _, rfl, l, .ref aN, r.1, nothing, rfl, hGs.same s45, tN _, ho.len, fun q1 H6 s6 hq1 => ?_⟩
    have s456 := s45.trans s6
    have hud : place / width f < units r f := Int.ediv_lt_of_lt_mul hw0 (by rw [Int.mul_comm]; exact p1)
    obtain ⟨t1, t2⟩ := loc_trace ho hf hloc hud
    have huw : width f * (place / width f) ≤ place ∧ place < width f * (place / width f + 1) := by
      have h1 := Int.mul_ediv_add_emod place (width f)
      have h2 := Int.emod_nonneg place (show width f ≠ 0 by omega)
      have h3 := Int.emod_lt_of_pos place hw0
      rw [Int.mul_add, Int.mul_one]
      omega
    have fin : ∀ H' pp, Same H3 H' → 0 ≤ pp → U f (expand r.1) pp ≤ place / width f → place / width f < U f (expand r.1) (pp + 1) → Q (.int pp) H' := fun H' pp s b0 b1 b2 =>
      q _ _ (sA.trans s) b0 (lt_size ho hf b0 hud b1) (Int.le_trans (Int.mul_le_mul_of_nonneg_left b1 (by omega)) huw.1) (Int.lt_of_lt_of_le huw.2 (Int.mul_le_mul_of_nonneg_left (by omega) (by omega)))
    rcases Nat.lt_or_ge at' r.1.length with hlt | hge
    · have hxx := List.getElem?_eq_getElem hlt
      generalize r.1[at'] = z at hxx
      have z2 := (hg.1 z (List.mem_of_getElem? hxx)).2.1
      refine ⟨_, rfl, _, rfl, l, q1, at', num, r.1, nothing, n, z.2 + 1, rfl, hGs.same s456, hq1, hg, nothing_okT n, hn0, hn, by rw [lens_at hxx, nothing_after z2], hloc.num hg, fun H7 s7 => ?_⟩
      rw [nothing_moved (hg.take at')]
      have sB := s456.trans s7
      obtain ⟨xs7, hL7, hP7⟩ := hGs.same sB
      refine ⟨_, rfl, _, rfl, l, _, rfl, .inl hL7, _, _, rfl, rfl, _, rfl, ?_⟩
      rw [decide_eq_true (by have := hP7.len; omega : (at' : Int) < (xs7.length : Int))]
      refine iteT ?_
      have hv : at' < xs7.length := by rw [hP7.len]; exact hlt
      obtain ⟨z', hz', ap, eap, hap⟩ := hP7.get (List.getElem?_eq_getElem hv)
      rw [hxx] at hz'
      cases hz'
      refine ⟨_, rfl, _, rfl, _, rfl, l, _, at', _, rfl, rfl, hL7, atI_nat (j := at') (List.getElem?_eq_getElem hv), ?_⟩
      rw [eap]
      refine ⟨ap, _, 1, _, rfl, rfl, .inl (.inl hap), atI_nat (j := 1) rfl, _, rfl, _, rfl, z.2, y, f, ins, rfl, (hy.same sA).same sB, _, _, rfl, rfl, ?_⟩
      obtain ⟨b0, b1, b2⟩ := t1 z hxx
      exact fin _ _ sB b0 b1 b2
    · have he : at' = r.1.length := by
        have := hloc.le
        omega
      subst he
      obtain ⟨b0, _, b1, b2⟩ := t2 rfl
      have hnum : num = 0 := by
        rcases hloc with ⟨x, hx, _⟩ | ⟨_, e, _⟩
        · have := (List.getElem?_eq_some_iff.mp hx).1
          omega
        · exact e
      refine ⟨_, rfl, _, rfl, l, q1, r.1.length, num, r.1, nothing, n, 0, rfl, hGs.same s456, hq1, hg, nothing_okT n, hn0, hn, lens_end, hloc.num hg, fun H7 s7 => ?_⟩
      rw [nothing_moved (hg.take _), List.take_length, Int.mul_zero, Int.add_zero]
      have sB := s456.trans s7
      obtain ⟨xs7, hL7, hP7⟩ := hGs.same sB
      refine ⟨_, rfl, _, rfl, l, _, rfl, .inl hL7, _, _, rfl, rfl, _, rfl, ?_⟩
      rw [decide_eq_false (by have := hP7.len; omega : ¬ ((r.1.length : Nat) : Int) < (xs7.length : Int))]
      refine iteF ⟨_, rfl, _, rfl, _, _, rfl, rfl, ?_⟩
      exact fin _ _ sB b0 (by omega) (by omega)
end
end Lw
namespace Lw
open PySem PySem.Spec L2 Lx
theorem U_sm {n : Nat} {f : Fm} {r : List (Int × Int) × Int} (h : RnOk n r) (hf : f.Ok n) {p : Int} (h0 : 0 ≤ p) (h1 : p ≤ size1 r) : 0 ≤ U f (expand r.1) p ∧ Sm (2 * n + 20) (U f (expand r.1) p) := by
  have a := U_nn (f := f) hf.a0.1 (js := expand r.1) h0
  have b := U_mono (f := f) hf.a0.1 (js := expand r.1) h0 h1
  rw [size_end h] at b
  exact ⟨a, Sm.of_le a b (units_ok (RnOk.sm h) hf).2⟩
section
variable {P : Program} {w : World} {K : PySem.W.Frag} {mg : Str → Option Value} {base : Heap}
theorem ok_off {f aN aR aF aW aP aU aL aA aS aG : Addr} {fd dR dF dW dP dU dL dA dS dG : FuncData} {k : Nat} (F : Fun K "offspring" "offspring" sOffspring f fd) (Z : LeF mg)
    (gN : mg "NOTHING" = some (.ref aN)) (tN : ∀ H : Hp, FmAt K H (.ref aN) nothing)
    (cR : Cl P w K mg base k "check_run" ["run"] (spChkRun K) aR dR)
    (cF : Cl P w K mg base k "check_form" ["wanted"] (spChkForm K) aF dF)
    (cW : Cl P w K mg base k "characters_of_unit" ["wanted"] (spWid K) aW dW)
    (cP : Cl P w K mg base k "check_place" ["place", "total"] spChp aP dP)
    (cU : Cl P w K mg base k "units" ["run", "wanted"] (spUnits K) aU dU)
    (cL : Cl P w K mg base k "located" ["groups", "lengths", "place"] (spLoc K) aL dL)
    (cA : Cl P w K mg base k "lengths_after" ["groups", "wanted"] (spLens K) aA dA)
    (cS : Cl P w K mg base k "start_of" ["groups", "lengths", "at", "number"] (spSta K) aS dS)
    (cG : Cl P w K mg base k "units_in_group" ["j", "wanted", "place"] (spUig K) aG dG) : FnOk P w K mg base CX0 (k + 1) f fd ["run", "wanted", "place"] (spOff K) := by
  refine F.ok scOff (fun vs H Q E h => ?_) (fun cdv A outer s H vs Q E hr h => ?_)
  · obtain ⟨x, y, l, r, f, n, place, rfl, _⟩ := h
    rfl
  · obtain ⟨x, y, l, r, f, n, place, rfl, hx, hy, ho, hf, hn0, hn, p0, p1, qn, qt⟩ := h
    refine ⟨_, (pss_cons (ps_expr (pe_call cR.G hr (by rfl) cR.g cR.kp cR.b .nil pass0 (pa_cons (pv 0) pa_nil)))
      (pss_cons (ps_expr (pe_call cF.G hr (by rfl) cF.g cF.kp cF.b .nil pass0 (pa_cons (pv 1) pa_nil)))
      (pss_cons (ps_expr (pe_call cP.G hr (by rfl) cP.g cP.kp cP.b .nil pass0 (pa_cons (pv 2) (pa_cons (pe_call cU.G hr (by rfl) cU.g cU.kp cU.b .nil pass0 (pa_cons (pv 0) (pa_cons (pe_glob (v := .ref aN) rfl gN rfl) pa_nil))) pa_nil))))
      (pss_cons (ps_asg (pv 0) (pg_tup (by rfl) (pgs_cons (pg_name (i := 3) scOff.nd rfl (.inl rfl)) (pgs_cons (pg_name (i := 4) scOff.nd rfl (.inl rfl)) pgs_nil))))
      (pss_cons (ps_asg (pe_call cL.G hr (by rfl) cL.g cL.kp cL.b .nil pass0 (pa_cons (pv 3) (pa_cons (pe_call cA.G hr (by rfl) cA.g cA.kp cA.b .nil pass0 (pa_cons (pv 3) (pa_cons (pe_glob (v := .ref aN) rfl gN rfl) pa_nil))) (pa_cons (pv 2) pa_nil)))) (pg_tup (by rfl) (pgs_cons (pg_name (i := 5) scOff.nd rfl (.inl rfl)) (pgs_cons (pg_name (i := 6) scOff.nd rfl (.inl rfl)) (pgs_cons (pg_name (i := 7) scOff.nd rfl (.inl rfl)) pgs_nil)))))
      (pss_cons (ps_par (i := 8) (j := 9) rfl scOff.nd rfl rfl (by decide) rfl rfl (pa_cons (pv 7) (pa_cons (pv 7) pa_nil)) rfl)
      (pss_cons (ps_if (pt_cmpR op_lt (pv 5) (pe_callB call_len_seq (by rfl) Z.len PySem.boot_len (pa_cons (pv 3) pa_nil)) (nomark _))
          (pss_one (ps_asg (pe_call cG.G hr (by rfl) cG.g cG.kp cG.b .nil pass0 (pa_cons (pe_ix ix_tup (pe_ix ix_list (pv 3) (pv 5) (fun _ _ => rfl)) pe_int (fun _ _ => rfl)) (pa_cons (pv 1) (pa_cons (pv 7) pa_nil)))) (pg_tup (by rfl) (pgs_cons (pg_name (i := 8) scOff.nd rfl (.inl rfl)) (pgs_cons (pg_name (i := 9) scOff.nd rfl (.inl rfl)) pgs_nil))))) pss_nil)
      (pss_cons (ps_if (pt_cmpR op_gt (pv 8) (pv 9) (nomark _))
          (pss_one (ps_ret pe_non)) pss_nil)
      (pss_cons (ps_set (i := 10) scOff.nd rfl (.inl rfl) (pe_call cS.G hr (by rfl) cS.g cS.kp cS.b .nil pass0 (pa_cons (pv 3) (pa_cons (pe_call cA.G hr (by rfl) cA.g cA.kp cA.b .nil pass0 (pa_cons (pv 3) (pa_cons (pv 1) pa_nil))) (pa_cons (pv 5) (pa_cons (pv 6) pa_nil))))))
      (pss_cons (ps_set (i := 11) scOff.nd rfl (.inl rfl) (pe_call cW.G hr (by rfl) cW.g cW.kp cW.b .nil pass0 (pa_cons (pv 1) pa_nil)))
      (pss_one (ps_ret (pe_tup (pa_cons (pe_op op_mulW (pe_op op_add (pv 10) (pv 8)) (pv 11)) (pa_cons (pe_op op_sub (pe_op op_mulW (pe_op op_add (pe_op op_add (pv 10) (pv 9)) pe_int) (pv 11)) pe_int) pa_nil))))))))))))))), ?_⟩
    have hw := width_sm hf hn0
    have hw0 := width_pos hf
    have hg := RnOk.g ho
    refine ⟨_, rfl, x, l, r, n, rfl, hx, ho, fun H1 s1 => ⟨_, rfl, y, f, n, rfl, hy.same s1, hf, fun H2 s2 => ?_⟩⟩
    have s12 := s1.trans s2
    refine ⟨_, rfl, _, rfl, x, l, r, .ref aN, nothing, n, rfl, hx.same s12, tN _, RnOk.sm ho, nothing_okT n, by omega, fun H3 s3 => ?_⟩
    rw [size_nothing ho]
    refine ⟨_, _, rfl, p0, p1, ?_⟩
    have sA := s12.trans s3
    obtain ⟨p, rfl, hT, xs, hL, hP⟩ := hx.same sA
    have hGs : GsAt K H3 l r.1 := ⟨xs, hL, hP⟩
    refine ⟨_, rfl, p, _, rfl, hT, rfl, _, _, rfl, _, _, rfl, rfl, ?_⟩
    refine ⟨_, rfl, _, rfl, l, .ref aN, r.1, nothing, rfl, hGs, tN _, ho.len, fun q0 H4 s4 hq0 => ?_⟩
    refine ⟨_, rfl, l, q0, _, r.1, nothing, n, rfl, hGs.same s4, hq0, hg, nothing_okT n, hn0, hn, p0, fun t H5 at' num ins s5 ht hloc => ?_⟩
    refine ⟨t, _, rfl, .inl (.inl ht), rfl, _, _, rfl, _, _, rfl, _, _, rfl, rfl, ?_⟩
    have s45 := s4.trans s5
    refine ⟨_, rfl, _, rfl, _, _, rfl, ?_⟩
    obtain ⟨o1, o2⟩ := loc_off ho hf hloc
    obtain ⟨xs5, hL5, hP5⟩ := hGs.same s45
    have hle := hloc.le
    have hlen5 := hP5.len
    -- the start of the group
    have hS : ∃ ln S, (lens f r.1)[at']? = some ln ∧ S = total (moved f (r.1.take at')) + num * ln ∧ (∀ x, r.1[at']? = some x → ln = f.after x.2 + 1) ∧ (at' = r.1.length → S = total (moved f r.1)) := by
      rcases Nat.lt_or_ge at' r.1.length with hlt | hge
      · refine ⟨_, _, lens_at (List.getElem?_eq_getElem hlt), rfl, fun x hx => ?_, fun h => by omega⟩
        rw [List.getElem?_eq_getElem hlt] at hx
        cases hx
        rfl
      · have he : at' = r.1.length := by omega
        subst he
        refine ⟨0, _, lens_end, rfl, fun x hx => ?_, fun _ => ?_⟩
        · have := (List.getElem?_eq_some_iff.mp hx).1
          omega
        · rw [List.take_length, Int.mul_zero, Int.add_zero]
    obtain ⟨ln, S, hln, hSe, hS1, hS2⟩ := hS
    dsimp only [gName, tNext, tSeq]
    refine if_fin (fun σ H1 => ∃ a b : Int, Same H5 H1 ∧ σ = [some (.ref p), some y, some (.int place), some (.ref l), some (.int r.2), some (.int at'), some (.int num), some (.int ins), some (.int a), some (.int b), none, none] ∧
      (a ≤ b → U f (expand r.1) place = S + a ∧ U f (expand r.1) (place + 1) = S + b + 1) ∧ (b < a → U f (expand r.1) place = U f (expand r.1) (place + 1))) (fun R hR => ?_) (fun σ H6 hF => ?_)
    · refine ⟨_, rfl, _, rfl, l, _, rfl, .inl hL5, _, _, rfl, rfl, _, rfl, ?_⟩
      rcases Nat.lt_or_ge at' r.1.length with hlt | hge
      · have hxx := List.getElem?_eq_getElem hlt
        generalize r.1[at'] = z at hxx
        rw [decide_eq_true (by omega : (at' : Int) < (xs5.length : Int))]
        refine iteT ?_
        have hv : at' < xs5.length := by omega
        obtain ⟨z', hz', ap, eap, hap⟩ := hP5.get (List.getElem?_eq_getElem hv)
        rw [hxx] at hz'
        cases hz'
        refine ⟨_, rfl, _, rfl, l, _, at', _, rfl, rfl, hL5, atI_nat (j := at') (List.getElem?_eq_getElem hv), ?_⟩
        rw [eap]
        refine ⟨ap, _, 1, _, rfl, rfl, .inl (.inl hap), atI_nat (j := 1) rfl, _, rfl, _, rfl, z.2, y, f, ins, rfl, (hy.same sA).same s45, fun t2 H6 s6 ht2 => ?_⟩
        refine ⟨t2, _, rfl, .inl (.inl ht2), rfl, _, _, rfl, _, _, rfl, rfl, ?_⟩
        obtain ⟨c1, c2⟩ := o1 z hxx S (by rw [hSe, hS1 z hxx]) _ _ rfl rfl
        exact hR _ _ ⟨_, _, s6, rfl, c1, c2⟩
      · have he : at' = r.1.length := by omega
        rw [decide_eq_false (by omega : ¬ (at' : Int) < (xs5.length : Int))]
        obtain ⟨c1, c2, c3⟩ := o2 he
        refine iteF (hR _ _ ⟨ins, ins, Same.refl _, rfl, fun _ => ⟨?_, ?_⟩, fun h => by omega⟩)
        · rw [c2, hS2 he]
        · rw [c3, hS2 he]
    · obtain ⟨a, b, s6, rfl, c1, c2⟩ := hF
      dsimp only
      have s46 := s45.trans s6
      have sB := sA.trans s46
      refine ⟨_, rfl, _, rfl, _, _, rfl, rfl, _, rfl, ite2 (fun c => ?_) (fun c => ?_)⟩
      · exact qn (c2 (of_decide_eq_true c)) _ sB
      · have hab : a ≤ b := Int.le_of_not_gt fun h => c (decide_eq_true h)
        obtain ⟨d1, d2⟩ := c1 hab
        refine ⟨_, rfl, _, rfl, _, rfl, l, y, r.1, f, rfl, hGs.same s46, hy.same sB, ho.len, fun q1 H7 s7 hq1 => ?_⟩
        refine ⟨_, rfl, _, rfl, l, q1, at', num, r.1, f, n, ln, rfl, (hGs.same s46).same s7, hq1, hg, hf, hn0, hn, hln, hloc.num hg, fun H8 s8 => ?_⟩
        rw [← hSe]
        have sC := (sB.trans s7).trans s8
        refine ⟨_, rfl, y, f, n, rfl, hy.same sC, hf, hn0, by omega, ?_⟩
        obtain ⟨u0, u1⟩ := U_sm ho hf (p := place) p0 (by omega)
        obtain ⟨v0, v1⟩ := U_sm ho hf (p := place + 1) (by omega) (by omega)
        rw [d1] at u1
        rw [d2] at v1
        refine ⟨_, rfl, _, rfl, _, _, rfl, rfl, _, rfl, _, _, rfl, rfl, wide_mul u1 hw (by omega) (by omega) (by omega), _, rfl, _, rfl, _, _, rfl, rfl, _, _, rfl, rfl, _, rfl, _, _, rfl, rfl, wide_mul v1 hw (by omega) (by omega) (by omega), _, _, rfl, rfl, by show 2 ≤ sizeLine; decide, fun t9 n9 => ?_⟩
        refine qt (by omega) _ t9 (sC.trans (same_upd n9)) (sC.free n9) ?_
        rw [upd_same, d1, d2, Int.mul_comm (width f), Int.mul_comm (width f)]
end
end Lw
/-! try .. except X as e: the caught error is kept for what follows the clause. -/
namespace Lx
open PySem PySem.Spec L2
/-- at e: a caught error of the class at C, its own dict at d -/
def errX (e C d : Addr) : HO := .ext fun h => ∃ (o : Obj) (vs : Array Value), h.get? e = some o ∧ o.cls = .ref C ∧ o.dict = some d ∧ o.data = .fields vs
theorem errX_ok {P : Program} {w : World} {H : Hp} {h : Heap} {e C d : Addr} {o : Obj} {vs : Array Value} (he : h.get? e = some o) (h1 : o.cls = .ref C) (h2 : o.dict = some d) (h3 : o.data = .fields vs) : ObjOk P w H h e (errX e C d) :=
  ⟨⟨o, vs, he, h1, h2, h3⟩, ⟨_, he⟩, fun _ _ ⟨o, vs, a, b, c, d⟩ k => ⟨o, vs, k _ a, b, c, d⟩⟩
theorem errX_at {P : Program} {w : World} {H : Hp} {h : Heap} {e C d : Addr} (hok : HOk P w H h) (he : H e = some (errX e C d)) : ∃ (o : Obj) (vs : Array Value), h.get? e = some o ∧ o.cls = .ref C ∧ o.dict = some d ∧ o.data = .fields vs := by
  have x : ObjOk P w H h e (.ext fun h => ∃ (o : Obj) (vs : Array Value), h.get? e = some o ∧ o.cls = .ref C ∧ o.dict = some d ∧ o.data = .fields vs) := hok e _ he
  exact x.1
section
variable {X : Cx} {pins : List (Addr × Obj)} {σ : List (Option V)} {H : Hp} {s : Shared}
theorem know (I : Inv X pins σ H s) {a : Addr} {o : HO} (na : H a = none) (hn : X.s_0.heap.get? a = none) (nL : a ≠ X.env.locals) (nC : ∀ x c, X.env.cells.lookup x = some c → c ≠ a)
    (np : ∀ p ∈ X.pn ++ pins, p.1 ≠ a) (ok : ObjOk X.prog X.w (upd H a o) s.heap a o) : Inv X pins σ (upd H a o) s := by
  have ne : ∀ {b : Addr} {u : HO}, H b = some u → b ≠ a := fun {b u} q z => by rw [z, na] at q; cases q
  refine ⟨I.ok, I.os, I.bare, ⟨I.base.keep, I.base.slot, fun b o' e n hx => ?_, I.base.there, fun b xs q => ?_, fun b o' u q => ?_, fun b ps q => ?_⟩, I.loc, I.cell, ?_, fun x c e => ?_, fun p hp => ?_, fun b u e => ?_, I.len⟩
  · rw [upd_ne (fun z => by rw [z, hn] at e; cases e)]
    exact I.base.free b o' e n hx
  · have := I.base.tups b xs q
    rw [upd_ne (ne this)]; exact this
  · have := I.base.frzs b o' u q
    rw [upd_ne (ne this)]; exact this
  · obtain ⟨m, this⟩ := I.base.tbls b ps q
    exact ⟨m, by rw [upd_ne (ne this)]; exact this⟩
  · rw [upd_ne (Ne.symm nL)]; exact I.free
  · rw [upd_ne (nC x c e)]; exact I.freeC x c e
  · obtain ⟨e, n, r⟩ := I.pin p hp
    exact ⟨e, by rw [upd_ne (np p hp)]; exact n, r⟩
  · by_cases hb : b = a
    · subst hb
      rw [upd_same] at e
      cases e
      exact ok
    · rw [upd_ne hb] at e
      exact (I.hok b u e).stay (fun c v _ q => q) (fun c q => by rw [upd_ne (ne q)]; exact q) fun c xs q => by rw [upd_ne (ne q)]; exact q
theorem suiteK (I : Inv X pins σ H s) (a : Addr) : Inv (X.suite a (X.pn ++ pins)) [] σ H s :=
  ⟨I.ok.suite _ _, I.os, I.bare, I.base, I.loc, I.cell, I.free, I.freeC, fun p hp => I.pin p (by rw [List.append_nil] at hp; exact hp), I.hok, I.len⟩
theorem unsuiteK {a : Addr} {pn' : List (Addr × Obj)} (I : Inv (X.suite a (X.pn ++ pins)) pn' σ H s) (ok : X.Ok) : Inv X pins σ H s :=
  ⟨ok, I.os, I.bare, I.base, I.loc, I.cell, I.free, I.freeC, fun p hp => I.pin p (List.mem_append_left _ hp), I.hok, I.len⟩
end
/-- what the clause 'except x as n' wishes of an own error of the body: slot i is n's; the error is told -/
def wKp (K : PySem.W.Frag) (c : Value) (i : Nat) (ts : TS) (D : Ends) : WX := fun cls d σ H =>
  ∃ C dd : Addr, cls = .ref C ∧ d = some dd ∧ PySem.W.exmOne K cls c = some true ∧ ∀ a, H a = none →
    ts { nx := fun σ' H' => D.nx (σ'.set i none) H', rt := D.rt, bk := fun σ' H' => D.bk (σ'.set i none) H', ct := fun σ' H' => D.ct (σ'.set i none) H' } (σ.set i (some (.ref a))) (upd H a (errX a C dd))
section
variable {X : Cx} {x n : Str} {c : Value} {i : Nat} {body suite : List Stmt} {b₀ : Stmt} {np pos pos' : Pos} {tb : WX → TS} {ts : TS}
theorem ps_try_keep (hs : X.stack = X.env :: X.outer) (hf : X.env.frame = some X.env.locals) (hex : X.ex = []) (hN : X.N.Nodup) (hi : X.N[i]? = some n) (hln : X.env.kindOf n = some .local) (hc : Names X x c)
    (hb : ∀ (W : WX) (pn : List (Addr × Obj)) (xe : Value → Shared → Prop), Takes (X.tr pn xe) W → PassesOwn (model X.prog X.w) X.A X.env xe → PSs (X.tr pn xe) body (tb W))
    (hsu : ∀ (a : Addr) (pn : List (Addr × Obj)), PSs (X.suite a pn) (b₀ :: suite) ts) :
    PS X (.Try body [.ExceptHandler (some (.Name x np)) (some n) (b₀ :: suite) pos'] [] [] pos) (fun D σ H => tb (wKp X.K c i ts D) D σ H) := by
  refine ⟨fun pins s σ H D I h => ?_⟩
  have ok := I.ok
  have hfr : X.A.frames = some (X.env :: X.outer) := by rw [ok.frames, hs]
  have hloc : Loc X.env.scope n := .inl hln
  refine wpAny_Try_except ?_
  refine wpAny_mono ((hb (wKp X.K c i ts D) (X.pn ++ pins) (fun e s₁ => wpAny (model X.prog X.w) X.A (noteFrame e X.env) (fun _ s₂ => wpAny (model X.prog X.w) X.A (setFlight e none) (fun _ s₃ =>
    wpAny (model X.prog X.w) X.A (handleBy e X.env [.ExceptHandler (some (.Name x np)) (some n) (b₀ :: suite) pos']) (SP X pins D) X.xe s₃) X.xe s₂) X.xe s₁) (fun u s' xx => ?_) PassesOwn.looking).run [] s σ H D (I.toTry _) h) (fun f s1 hsp => ?_) (fun e s1 he => he)
  · obtain ⟨a, B, sI, pins', σ', H', cls, d, rfl, J', nb, up, sky, na, os, ag, C, dd, rfl, rfl, hb1, hyes⟩ := xx
    have J : Inv X pins σ' H' sI := J'.ofTry ok
    have sky' : Sky B (X.env :: X.outer) a (Zc (.ref C) (some dd)) X.env.locals s'.heap := by rw [← hs]; exact sky
    show wpAny (model X.prog X.w) X.A (noteFrame (.ref a) X.env) _ _ _
    refine Sky.land Zc.steady hfr hf sky' fun h3 fl3 up3 => ?_
    have J3 : Inv X pins σ' H' { s' with heap := h3 } := J.landed nb fl3.1 (up.trans up3) os ag
    obtain ⟨oe3, vs3, he3, hz3, hd3⟩ := fl3.there
    have notFr : ∀ {h : Heap} {o : Obj} {vs : Array Value}, h.FunFrames B (X.env :: X.outer) → h.get? a = some o → o.data = .fields vs → a ∉ frs (X.env :: X.outer) := fun {h o vs} ff e dd hm => by
      obtain ⟨_, o', e', hnf⟩ := ff.mem hm
      rw [e] at e'; cases e'
      exact hnf _ dd
    have nfr := notFr fl3.2.2.1 he3 hd3
    have nfr' : a ∉ frs X.stack := by rw [hs]; exact nfr
    have nB : B.get? a = none := fl3.2.1
    have nsI : ∀ o, sI.heap.get? a ≠ some o := fun o e => by
      have := nb a o e nfr'
      rw [nB] at this; cases this
    have nL : a ≠ X.env.locals := fun z => nfr (List.mem_filterMap.mpr ⟨X.env, List.mem_cons_self, by rw [hf, z]⟩)
    have n0 : X.s_0.heap.get? a = none := by
      cases e : X.s_0.heap.get? a with
      | none => rfl
      | some o =>
        obtain ⟨o', e'⟩ := J.base.there a o e (by rw [hex]; exact List.not_mem_nil)
        exact (nsI o' e').elim
    have np1 : ∀ p ∈ X.pn ++ pins, p.1 ≠ a := fun p hp z => nsI p.2 (by rw [← z]; exact (J.pin p hp).1)
    have S3 := suiteK J3 a
    refine wpAny_handleBy_cons (codeAny_handlers_test ?_) (by intro q; cases q)
    have LT : PySem.W.Looks (model X.prog X.w) h3 (typeOf (.ref a)) (.ref C) := fun A Q E s k q => wpAny_typeOf_ref (k _ _ he3) (by rw [hz3.1]; exact q)
    have LM := PySem.W.exm_one (M := model X.prog X.w) (J3.kIn) LT hb1
    have test : ∀ {Q : Value → Shared → Prop} {E : Value → Shared → Prop}, Q c { s' with heap := h3 } → wpAny (model X.prog X.w) (X.A.mark (some (.ref a))) (eval (.Name x np) X.env) Q E { s' with heap := h3 } := fun {Q E} q => by
      obtain ⟨hg, hdbg, hm | ⟨hm, hv, hnn⟩⟩ := hc
      · exact ld_glob (X := X.suite a (X.pn ++ pins)) S3 hg hm q hdbg
      · exact ld_blt (X := X.suite a (X.pn ++ pins)) S3 hg hm hv q hnn hdbg
    refine test (LM.here ?_)
    refine codeAny_handlers_suite_as ?_
    refine HandSPX.lands_againZ fl3 fun h4 fl4 up4 => ?_
    have J4 : Inv X pins σ' H' { s' with heap := h4 } := J.landed nb fl4.1 ((up.trans up3).trans up4) os ag
    obtain ⟨oe4, vs4, he4, hz4, hd4⟩ := fl4.there
    have K4 : Inv X pins σ' (upd H' a (errX a C dd)) { s' with heap := h4 } := know J4 na n0 nL (fun y c e z => by
      obtain ⟨v, o, ho, hdd⟩ := J4.cell y c e
      rw [z] at ho
      have ho' : h4.get? a = some o := ho
      rw [he4] at ho'
      cases ho'
      rw [hd4] at hdd
      cases hdd) np1 (errX_ok he4 hz4.1 hz4.2 hd4)
    have S4 := suiteK K4 a
    refine store_ok (X := X.suite a (X.pn ++ pins)) (v := .ref a) S4 hN hi hloc rfl (fun s5 S5 => ?_) (.inr hln)
    refine wpAny_mono ((hsu a (X.pn ++ pins)).run [] s5 _ _ _ S5 (hyes a na)) (fun f s6 hsp => ?_) (fun _ _ z => False.elim z)
    have end_ : ∀ {σ6 : St} {H6 : Hp} {Q : Shared → Prop}, Inv (X.suite a (X.pn ++ pins)) [] σ6 H6 s6 → (∀ s7, Inv X pins (σ6.set i none) H6 s7 → Q s7) →
        wpAny (model X.prog X.w) X.A (do bindName X.env n .none; unbindBehindTheSuite X.env n pos') (fun _ s7 => Q s7) X.xe s6 := fun {σ6 H6 Q} S6 hq => gone_ok (unsuiteK S6 ok) hN hi hln hq
    cases f with
    | next =>
      obtain ⟨σ6, H6, S6, q6⟩ := hsp
      exact end_ S6 fun s7 J7 => ⟨_, _, J7, q6⟩
    | brk =>
      obtain ⟨σ6, H6, S6, q6⟩ := hsp
      exact end_ S6 fun s7 J7 => ⟨_, _, J7, q6⟩
    | cont =>
      obtain ⟨σ6, H6, S6, q6⟩ := hsp
      exact end_ S6 fun s7 J7 => ⟨_, _, J7, q6⟩
    | ret u =>
      obtain ⟨v6, σ6, H6, S6, r6, q6⟩ := hsp
      exact end_ S6 fun s7 J7 => ⟨_, _, _, J7, r6, q6⟩
  · cases f with
    | next =>
      obtain ⟨σ', H', J', q⟩ := hsp
      exact wpAny_execs_nil ⟨σ', H', J'.ofTry ok, q⟩
    | brk =>
      obtain ⟨σ', H', J', q⟩ := hsp
      exact ⟨σ', H', J'.ofTry ok, q⟩
    | cont =>
      obtain ⟨σ', H', J', q⟩ := hsp
      exact ⟨σ', H', J'.ofTry ok, q⟩
    | ret u =>
      obtain ⟨v, σ', H', J', r, q⟩ := hsp
      exact ⟨v, σ', H', J'.ofTry ok, r, q⟩
end
section
variable {X : Cx} {pos : Pos}
/-- isinstance(e, c), e a caught error -/
def rIsX (K : PySem.W.Frag) : List V → Hp → VK → Prop := fun xs H Q => ∃ (e C d : Addr) (v : V) (c : V) (u : Value) (b : Bool), xs = [.ref e, c] ∧ H e = some (errX e C d) ∧ H d = some (.xd (vf v)) ∧ ClsV c u ∧ PySem.W.kitOne K (.ref C) u = some b ∧
  (∃ (file : Str) (mg : Str → Option Value) (L : Addr) (nm qual : Str) (st : Stmt), LineC K mg L ∧ ErrC K file mg L nm qual st C) ∧ Q (.bl b) H
theorem call_isX : CallR X (.builtin "isinstance") (rIsX X.K) := by
  intro pins s σ H xs us Q I r h
  obtain ⟨e, C', d, v, c, u, b, rfl, he, hd, hc, hk, ⟨file, mg, L', nm', qual', st', TL, T⟩, q⟩ := h
  obtain ⟨u1, u2, rfl, r1, r2⟩ := vals2 r
  obtain rfl : u1 = Value.ref e := r1
  have e2 := hc.eq r2
  subst e2
  obtain ⟨o, vs, ho, o1, o2, o3⟩ := errX_at I.hok he
  obtain ⟨mA, hns, _⟩ := (show ∃ mA, s.heap.Ns1 d mA ∧ ∀ f, RelO ((vf v).lookup f) (mA f) from I.hok d _ hd)
  obtain ⟨od, hod, _⟩ := lookIn_ns hns
  obtain ⟨cd, q1, q2, q3⟩ := T.chain
  obtain ⟨ocls, odict, odata, oslots⟩ := o
  simp only at o1 o2 o3
  subst o1 o2 o3
  have Z : PySem.W.KitX X.K (.ref e) (.ref C') (fun h => PySem.W.InstAt h e { cls := .ref C', dict := some d, data := .fields vs, slots := oslots } C' (some od)) :=
    PySem.W.kitx_exc (by rw [q1]; rfl) T.ga T.gg ((T.under _).trans (by rfl)) T.ca TL.sp TL.tk ((T.under _).trans (by rfl))
  exact PySem.W.kia_one Z I.kIn ⟨ho, rfl, rfl, hod⟩ hk (fun z => nomatch z) fun tk => ⟨.bl b, H, I.tok tk, rfl, q⟩
/-- e.value, e a caught error -/
def tErrXV (K : PySem.W.Frag) (te : TE) : TE := fun σ H Q => te σ H fun x H1 => ∃ (e C d : Addr) (v : V), x = .ref e ∧ H1 e = some (errX e C d) ∧ H1 d = some (.xd (vf v)) ∧
  (∃ (file : Str) (mg : Str → Option Value) (L : Addr) (nm qual : Str) (st : Stmt), LineC K mg L ∧ ErrC K file mg L nm qual st C) ∧ Q v H1
theorem pe_errXV {e : Expr} {te : TE} (he : PE X e te) (hb : attributeBase e "value" X.env (eval e X.env) = eval e X.env := by rfl) : PE X (.Attribute e "value" pos) (tErrXV X.K te) := by
  refine ⟨fun pins s σ H Q I h => ?_⟩
  refine attr_of hb (thn (he.run pins s σ H _ I h) fun u s1 hh => ?_)
  obtain ⟨x, H1, I1, rx, e', C', d, v, ex, hoe, hd, ⟨file, mg, L', nm', qual', st', TL, T⟩, q⟩ := hh
  subst ex
  obtain rfl : u = Value.ref e' := rx
  obtain ⟨o, vs, ho, o1, o2, o3⟩ := errX_at I1.hok hoe
  obtain ⟨mA, hns, hr⟩ := (show ∃ mA, s1.heap.Ns1 d mA ∧ ∀ f, RelO ((vf v).lookup f) (mA f) from I1.hok d _ hd)
  obtain ⟨od, hod, hl⟩ := lookIn_ns hns
  have l : List.lookup ("value" : Str) (vf v) = some v := by simp [List.lookup]
  obtain ⟨u, hu, ru⟩ := RelO.some_of (v := v) (o := mA "value") (by rw [← l]; exact hr "value")
  obtain ⟨ocls, odict, odata, oslots⟩ := o
  simp only at o1 o2 o3
  subst o1 o2 o3
  have J : PySem.W.InstAt s1.heap e' { cls := .ref C', dict := some d, data := .fields vs, slots := oslots } C' (some od) := ⟨ho, rfl, rfl, hod⟩
  obtain ⟨cd, q1, q2, q3⟩ := T.chain
  have hdict : PySem.W.hasDictIn X.K C' = true := by
    unfold PySem.W.hasDictIn
    rw [q1]
    simpa using q3
  exact HandSPX.exc_get I1.kIn J T.ga T.gg ((T.under _).trans (by rfl)) (PySem.W.findObj_own hdict T.nv rfl (by rw [hl, hu])) (handed_of ru) ⟨v, H1, I1.tok _, ru, q⟩
end
end Lx
/-! The eight error classes; classes whose __init__ raises, made by position and by name. -/
namespace Lx
open PySem PySem.Spec L2
/-- the eight classes and their base; ini i: the text of the i-th one's __init__ -/
structure ErrT (K : PySem.W.Frag) (file : Str) (mg : Str → Option Value) (L : Addr) (C : Nat → Addr) (ini : Nat → Stmt) : Prop where
  line : LineC K mg L
  e0 : ErrC K file mg L "InvalidChain" "InvalidChain.__init__" (ini 0) (C 0)
  e1 : ErrC K file mg L "InvalidRun" "InvalidRun.__init__" (ini 1) (C 1)
  e2 : ErrC K file mg L "InvalidForm" "InvalidForm.__init__" (ini 2) (C 2)
  e3 : ErrC K file mg L "InvalidNumber" "InvalidNumber.__init__" (ini 3) (C 3)
  e4 : ErrC K file mg L "InvalidPlace" "InvalidPlace.__init__" (ini 4) (C 4)
  e5 : ErrC K file mg L "UnknownName" "UnknownName.__init__" (ini 5) (C 5)
  e6 : ErrC K file mg L "NothingToUndo" "NothingToUndo.__init__" (ini 6) (C 6)
  e7 : ErrC K file mg L "Unreadable" "Unreadable.__init__" (ini 7) (C 7)
  inj : ∀ i j, i < 8 → j < 8 → C i = C j → i = j
  ne : ∀ i, i < 8 → C i ≠ L
section
variable {K : PySem.W.Frag} {file : Str} {mg : Str → Option Value} {L : Addr} {C : Nat → Addr} {ini : Nat → Stmt}
theorem ErrT.at (T : ErrT K file mg L C ini) : ∀ i, i < 8 → ∃ nm qual st, ErrC K file mg L nm qual st (C i)
  | 0, _ => ⟨_, _, _, T.e0⟩
  | 1, _ => ⟨_, _, _, T.e1⟩
  | 2, _ => ⟨_, _, _, T.e2⟩
  | 3, _ => ⟨_, _, _, T.e3⟩
  | 4, _ => ⟨_, _, _, T.e4⟩
  | 5, _ => ⟨_, _, _, T.e5⟩
  | 6, _ => ⟨_, _, _, T.e6⟩
  | 7, _ => ⟨_, _, _, T.e7⟩
  | n + 8, h => absurd h (by omega)
theorem ErrT.kit (T : ErrT K file mg L C ini) {i j : Nat} (hi : i < 8) (hj : j < 8) : PySem.W.kitOne K (.ref (C i)) (.ref (C j)) = some (decide (i = j)) := by
  obtain ⟨_, _, _, Ti⟩ := T.at i hi
  obtain ⟨_, _, _, Tj⟩ := T.at j hj
  rw [kit_err Ti Tj (T.ne j hj)]
  by_cases e : i = j
  · subst e; simp
  · have z : C i ≠ C j := fun q => e (T.inj i j hi hj q)
    rw [decide_eq_false e, decide_eq_false z]
theorem ErrT.kitL (T : ErrT K file mg L C ini) {i : Nat} (hi : i < 8) : PySem.W.kitOne K (.ref (C i)) (.ref L) = some true := by
  obtain ⟨_, _, _, Ti⟩ := T.at i hi
  exact kit_line T.line Ti
theorem ErrT.kitV (T : ErrT K file mg L C ini) {i : Nat} (hi : i < 8) : PySem.W.kitOne K (.ref (C i)) (.type "ValueError") = some true := by
  obtain ⟨_, _, _, Ti⟩ := T.at i hi
  exact kit_ve Ti
theorem ErrT.ex (T : ErrT K file mg L C ini) {i : Nat} (hi : i < 8) : ∃ (file : Str) (mg : Str → Option Value) (L : Addr) (nm qual : Str) (st : Stmt), LineC K mg L ∧ ErrC K file mg L nm qual st (C i) := by
  obtain ⟨_, _, _, Ti⟩ := T.at i hi
  exact ⟨_, _, _, _, _, _, T.line, Ti⟩
/-- except LineError -/
theorem ErrT.exm (T : ErrT K file mg L C ini) {i : Nat} (hi : i < 8) : PySem.W.exmOne K (.ref (C i)) (.ref L) = some true := by
  obtain ⟨_, _, _, Ti⟩ := T.at i hi
  unfold PySem.W.exmOne
  rw [T.line.exB, if_pos (by rfl)]
  have := kit_line T.line Ti
  unfold PySem.W.kitOne at this
  rw [if_neg (by simpa using T.ne i hi)] at this
  exact this
end
/-! ### list.count, flat items -/
section
variable {X : Cx}
theorem countP_eqU {x : V} : ∀ {xs : List V} {us : List Value}, Vals xs us → xs.all flatV = true → us.countP (eqU x) = xs.countP fun y => eqV y x
  | _, _, .nil, _ => rfl
  | y :: xs, u :: us, .cons r t, f => by
    rw [List.all_cons, Bool.and_eq_true] at f
    rw [List.countP_cons, List.countP_cons, countP_eqU t f.2, eqU_of r f.1]
def rCntF (K : PySem.W.Frag) : V → List V → Hp → VK → Prop := fun x xs H Q => ∃ (p : Addr) (ys : List V) (y : V), x = .ref p ∧ xs = [y] ∧ SqL K H p ys ∧ flatV y = true ∧ ys.all flatV = true ∧ Q (.int (ys.countP (fun z => eqV z y) : Nat)) H
theorem mt_countF : MtR X "list.count" (rCntF X.K) := by
  intro pins s σ H x xs v us Q I rx rxs h
  obtain ⟨p, ys, y, rfl, rfl, hs, fy, fys, q⟩ := h
  cases rx
  obtain ⟨u, rfl, ru⟩ := rxs.one
  obtain ⟨its, rv, ⟨⟨cls, dd, data, sl⟩, n, ho, hc, hdn, hd⟩, hlen⟩ := I.list hs
  simp only at hc hd
  subst hc hd
  refine call_meets PySem.F.slot_list_count ⟨_, ho, rfl⟩ PySem.F.entry_list_count (PySem.F.args_list_count_2 _ _)
    (SeqAt.list_countAt p its.toArray n dd sl u (eqU y)) ⟨ho, fun u' hu' => mem_eqAt ru fy rv fys u' (by simpa using hu'), ?_⟩
  have ec : its.toArray.toList.countP (eqU y) = ys.countP fun z => eqV z y := countP_eqU rv fys
  refine ⟨.int (ys.countP (fun z => eqV z y) : Nat), H, I.tok _, ⟨s.toks, ?_⟩, q⟩
  show Value.int ((its.toArray.toList.countP (eqU y) : Nat) : Int) s.toks = _
  rw [ec]
end
/-! ### C(e, ..), C(k = v) where __init__ may raise, at the slots -/
def tMakeS (C : Addr) (sp : Sp) (E : St → XK) (t : TA) : TE := fun σ H Q => t σ H fun vs H1 => ∀ x dx, H1 x = none → H1 dx = none → dx ≠ x →
  sp (.ref x :: vs) (upd (upd H1 dx (.own x)) x (.ins C dx [])) (fun v H2 => v = .non ∧ Q (.ref x) H2) (E σ)
def tMakeKS (C : Addr) (m : Nat) (sp : Sp) (gV : List V → List V → List V) (E : St → XK) (tk : TA) : TE := fun σ H Q => tk σ H fun zs H2 => zs.length = m ∧ ∀ x dx, H2 x = none → H2 dx = none → dx ≠ x →
  sp (gV [.ref x] zs) (upd (upd H2 dx (.own x)) x (.ins C dx [])) (fun v H3 => v = .non ∧ Q (.ref x) H3) (E σ)
section
variable {X : Cx} {CX : CXT} {k n : Nat} {f C : Addr} {fd : FuncData} {ps ks : List Str} {sp : Sp} {E : St → XK} {x : Str} {p pos : Pos} {e : Expr} {es : List Expr} {kws : List Keyword} {t tk : TA} {g : List Value → List Value → List Value} {gV : List V → List V → List V}
theorem run_makeS {pins : List (Addr × Obj)} {σ : St} {H : Hp} {s : Shared} {Q : VK} {us : List Value} {vs : List V} (M : Mk X.K C f) (F : FnOk X.prog X.w X.K X.mg X.base CX k f fd ps sp) (hr : Room (k + 1) X.A) (hb : Binds X.K fd ps [])
    (hx : PassesAt CX X σ (E σ)) (I : Inv X pins σ H s) (r : Vals vs us)
    (h : ∀ x dx, H x = none → H dx = none → dx ≠ x → sp (.ref x :: vs) (upd (upd H dx (.own x)) x (.ins C dx [])) (fun v H2 => v = .non ∧ Q (.ref x) H2) (E σ)) :
    wpAny (model X.prog X.w) X.A (call (.ref C) us) (EP X pins σ Q) X.xe s := by
  have hq := h (s.heap.objs.size + 1) s.heap.objs.size (I.hok.fresh (Nat.le_succ _)) (I.hok.fresh (Nat.le_refl _)) (Nat.ne_of_lt (Nat.lt_succ_self _))
  have I2 := Inv.made (C := C) I
  have r2 : Vals (V.ref (s.heap.objs.size + 1) :: vs) (Value.ref (s.heap.objs.size + 1) :: us) := .cons rfl r
  have hl : (Value.ref (s.heap.objs.size + 1) :: us ++ []).length = ps.length := by
    have e := r2.length
    rw [F.len _ _ _ _ hq] at e
    rw [List.append_nil]
    exact e.symm
  have b := hb _ (Value.ref (s.heap.objs.size + 1) :: us) I2.kIn hl
  rw [List.append_nil] at b
  refine wpAny_call (make_map (f := f) I.kIn M.makes M.init (beq_iff_eq.mp M.fn) (codeAny_mono (F.run _ X.stack _ _ ⟨Value.ref (s.heap.objs.size + 1) :: us, []⟩ (Value.ref (s.heap.objs.size + 1) :: us) _ _ (E σ) (hr.make C us [])
    (I2.env0.make C us []) b r2 hq) fun r s' hq' => ?_))
  cases r with
  | error e => exact hx pins _ _ e s' I2 hq'
  | ok fl =>
    cases fl with
    | ret u =>
      obtain ⟨v, H', I3, rv, ev, q3⟩ := I2.after hq'
      subst ev
      exact ⟨rv, ⟨V.ref (s.heap.objs.size + 1), H', I3, rfl, q3⟩⟩
    | next => exact False.elim hq'
    | brk => exact False.elim hq'
    | cont => exact False.elim hq'
theorem pe_makeS (M : Mk X.K C f) (F : FnOk X.prog X.w X.K X.mg X.base CX k f fd ps sp) (hr : Room (k + 1) X.A) (hg : Gl X x) (hm : X.mg x = some (.ref C)) (hb : Binds X.K fd ps []) (hx : ∀ σ, PassesAt CX X σ (E σ))
    (ha : PA X (e :: es) t) (hdb : (x == ("__debug__" : Str)) = false := by decide) (he : starEach (e :: es) X.env = (false, eval e X.env) :: starEach es X.env := by rfl) (hpl : (backTo pos (starEach es X.env)).any (·.1) = false := by rfl) :
    PE X (.Call (.Name x p) (e :: es) [] pos) (tMakeS C sp E t) := by
  refine ⟨fun pins s σ H Q I h => ?_⟩
  refine wpAny_Call_Name_kw (ld_glob I hg hm ?_ hdb)
  refine PySem.W.callWith_K (h₀ := X.base) I.ok.mod.kin M.kp (thn (ha.run pos pins s σ H _ I h) fun us s1 ⟨vs, H1, I1, r, q⟩ => ⟨I1.kIn, ?_⟩) he hpl
  exact run_makeS M F hr hb (hx σ) I1 r q
theorem run_makeKS {pins : List (Addr × Obj)} {σ : St} {H : Hp} {s : Shared} {Q : VK} {ws : List Value} {zs : List V} (M : Mk X.K C f) (F : FnOk X.prog X.w X.K X.mg X.base CX k f fd ps sp) (hr : Room (k + 1) X.A) (hb : KBn X.K fd ps 1 ks g gV)
    (hx : PassesAt CX X σ (E σ)) (I : Inv X pins σ H s) (rz : Vals zs ws) (l2 : zs.length = ks.length)
    (h : ∀ x dx, H x = none → H dx = none → dx ≠ x → sp (gV [.ref x] zs) (upd (upd H dx (.own x)) x (.ins C dx [])) (fun v H2 => v = .non ∧ Q (.ref x) H2) (E σ)) :
    wpAny (model X.prog X.w) X.A (call (.ref C) [] (ks.zip ws)) (EP X pins σ Q) X.xe s := by
  have hq := h (s.heap.objs.size + 1) s.heap.objs.size (I.hok.fresh (Nat.le_succ _)) (I.hok.fresh (Nat.le_refl _)) (Nat.ne_of_lt (Nat.lt_succ_self _))
  have I2 := Inv.made (C := C) I
  have r1 : Vals [V.ref (s.heap.objs.size + 1)] [Value.ref (s.heap.objs.size + 1)] := .cons rfl .nil
  have r2 := hb.rel r1 rz
  refine wpAny_call (make_map (f := f) I.kIn M.makes M.init (beq_iff_eq.mp M.fn) (codeAny_mono (F.run _ X.stack _ _ ⟨[Value.ref (s.heap.objs.size + 1)], ks.zip ws⟩ (g [Value.ref (s.heap.objs.size + 1)] ws) _ _ (E σ) (hr.make C [] (ks.zip ws))
    (I2.env0.make C [] (ks.zip ws)) (hb.to _ [Value.ref (s.heap.objs.size + 1)] ws I2.kIn rfl (rz.length.symm.trans l2)) r2 hq) fun r s' hq' => ?_))
  cases r with
  | error e => exact hx pins _ _ e s' I2 hq'
  | ok fl =>
    cases fl with
    | ret u =>
      obtain ⟨v, H', I3, rv, ev, q3⟩ := I2.after hq'
      subst ev
      exact ⟨rv, ⟨V.ref (s.heap.objs.size + 1), H', I3, rfl, q3⟩⟩
    | next => exact False.elim hq'
    | brk => exact False.elim hq'
    | cont => exact False.elim hq'
theorem pe_makeKS (M : Mk X.K C f) (F : FnOk X.prog X.w X.K X.mg X.base CX k f fd ps sp) (hr : Room (k + 1) X.A) (hg : Gl X x) (hm : X.mg x = some (.ref C)) (hb : KBn X.K fd ps 1 ks g gV) (hx : ∀ σ, PassesAt CX X σ (E σ)) (hkw : PK X kws tk)
    (hall : (backToKw pos (keywordEach kws X.env)).all (·.1.isSome) = true := by rfl) (hks : (backToKw pos (keywordEach kws X.env)).filterMap (·.1) = ks := by rfl) (hdb : (x == ("__debug__" : Str)) = false := by decide)
    (hpl : ((backTo pos (starEach [] X.env)).any (·.1) || (backToKw pos (keywordEach kws X.env)).any (·.1.isNone)) = false := by rfl) :
    PE X (.Call (.Name x p) [] kws pos) (tMakeKS C ks.length sp gV E tk) := by
  refine ⟨fun pins s σ H Q I h => ?_⟩
  refine wpAny_Call_Name_kw (ld_glob I hg hm ?_ hdb)
  refine PySem.W.callWith_KW0 (h₀ := X.base) I.ok.mod.kin M.kp hall ?_ hpl
  refine thn (hkw.run pos pins s σ H _ I h) fun ws s2 ⟨zs, H2, I2, rz, l2, q2⟩ => ⟨I2.kIn, ?_⟩
  rw [hks]
  exact run_makeKS M F hr hb (hx σ) I2 rz l2 q2
end
/-- self by position, the one argument by its name -/
def gSelf1 (α : Type) : List α → List α → List α
  | [a], [b] => [a, b]
  | _, _ => []
theorem kbSelf1 {K : PySem.W.Frag} {x qual : Str} {st : Stmt} {f : Addr} {fd : FuncData} {p1 p2 : Str} (F : Fun K x qual st f fd)
    (h : ∀ (kV doc pm : Value) (an : Option Addr) (cdv ct a b : Value), bindArgs (PySem.W.fnOf x qual (defArgs st) (defBody st) (defScope st) .none kV doc pm an cdv ct) ⟨[a], [(p2, b)]⟩ = pure [(p1, a), (p2, b)]) : KBn K fd [p1, p2] 1 [p2] (gSelf1 Value) (gSelf1 V) := by
  obtain ⟨oc, od, kV, doc, pm, an, cdv, ct, osl, rfl, lk, hcd⟩ := F.ex
  refine ⟨fun s us ws _ l1 l2 => ?_, fun {vs us zs ws} r1 r2 => ?_⟩
  · match us, ws, l1, l2 with
    | [a], [b], _, _ => exact .of_eq (h kV doc pm an cdv ct a b)
  · cases r1 with
    | nil => exact .nil
    | cons a t =>
      cases t with
      | cons _ _ => exact .nil
      | nil =>
        cases r2 with
        | nil => exact .nil
        | cons b t =>
          cases t with
          | nil => exact .cons a (.cons b .nil)
          | cons _ _ => exact .nil
end Lx
/-! check_run on any run -/
namespace Lw
open PySem PySem.Spec L2 Lx
theorem scChkRunE : FnScope ["run", "groups", "rest", "before", "index", "many", "j"] ["run"] (defScope sChkRun) := ⟨rfl, rfl, rfl, by decide +kernel, rfl, by decide +kernel, by decide +kernel⟩
def badG (b : Option Int) (x : Int × Int) : Bool := decide (x.1 < 1) || decide (x.2 < 0) || decide (some x.2 = b)
def faultG : Option Int → Nat → List (Int × Int) → Option Nat
  | _, _, [] => none
  | b, i, x :: r => if badG b x = true then some i else faultG (some x.2) (i + 1) r
def faultR (r : List (Int × Int) × Int) : Option V := match faultG none 0 r.1 with
  | some i => some (.int (i : Nat))
  | none => if r.2 < 0 then some .non else none
def spChkRunE (K : PySem.W.Frag) (C : Addr) : Sp := fun vs H Q E => ∃ x l r, vs = [x] ∧ RnAt K H x l r ∧ (faultR r = none → ∀ H', Same H H' → Q .non H') ∧ ∀ v, faultR r = some v → ∀ (H' : Hp) (d : Addr), Same H H' → H' d = some (.xd (vf v)) → E (.ref C) (some d) H'
section
variable {P : Program} {w : World} {K : PySem.W.Frag} {mg : Str → Option Value} {base : Heap} {L : Addr} {C : Nat → Addr} {ini : Nat → Stmt}
theorem ok_chkRunE {f : Addr} {fd : FuncData} {k : Nat} (T : ErrT K P.main.file mg L C ini) (F : Fun K "check_run" "check_run" sChkRun f fd) (mE : mg "enumerate" = none)
    (ht : (P.main.scope.names.lookup ("super" : Str)).isSome = false) (gs : mg "super" = none) : FnOk P w K mg base (L2.CX P w) (k + 3) f fd ["run"] (spChkRunE K (C 1)) := by
  refine F.okX scChkRunE (fun vs H Q E h => ?_) (fun cdv A outer s H vs Q E hr h => ?_)
  · obtain ⟨x, l, r, rfl, _⟩ := h
    rfl
  · obtain ⟨_, l, r, rfl, ⟨p, rfl, hT, xs, hL, hP⟩, hgood, hbad⟩ := h
    have hr1 : Room 1 (A.deeper (PyProof.Rows.envOfC "check_run" (defScope sChkRun) s.heap.objs.size f cdv)) := hr.mono (by omega)
    refine ⟨_, pss_cons (ps_asg (pv 0) (pg_tup (by rfl) (pgs_cons (pg_name (i := 1) scChkRunE.nd rfl (.inl rfl)) (pgs_cons (pg_name (i := 2) scChkRunE.nd rfl (.inl rfl)) pgs_nil))))
      (pss_cons (ps_set (i := 3) scChkRunE.nd rfl (.inl rfl) pe_non)
      (pss_cons (ps_for (passes_of rfl) rfl (pi_enum rfl mE (pa_cons (pv 1) pa_nil)) (pg_tup (by rfl) (pgs_cons (pg_name (i := 4) scChkRunE.nd rfl (.inl rfl)) (pgs_cons (pg_tup (by rfl) (pgs_cons (pg_name (i := 5) scChkRunE.nd rfl (.inl rfl)) (pgs_cons (pg_name (i := 6) scChkRunE.nd rfl (.inl rfl)) pgs_nil))) pgs_nil)))
        (pss_cons (ps_if (PW.pt (pw_or (pt_cmpR op_lt (pv 5) pe_int (nomark _)) (pw_or (pt_cmpR op_lt (pv 6) pe_int (nomark _)) (pw_or1 (pt_cmpR op_eq (pv 6) (pv 3) (nomark _)))))) (pss_one (ps_raise rfl (takes_of rfl rfl rfl rfl) (pmk_err T.line T.e1 hr1 ht gs (by rfl) (pv 4)))) pss_nil)
        (pss_one (ps_set (i := 3) scChkRunE.nd rfl (.inl rfl) (pv 6)))))
      (pss_one (ps_if (pt_cmpR op_lt (pv 2) pe_int (nomark _)) (pss_one (ps_raise rfl (takes_of rfl rfl rfl rfl) (pmk_err T.line T.e1 hr1 ht gs (by rfl) pe_non))) pss_nil)))), ?_⟩
    refine ⟨_, rfl, p, _, rfl, hT, rfl, _, _, rfl, _, _, rfl, rfl, ?_⟩
    dsimp only [gName, tNext, tSeq]
    refine ⟨_, rfl, l, xs, rfl, hL, ?_⟩
    have hxl := hP.len
    refine for_it (walk_enum (xs := xs)) (fun i σ H' => Same H H' ∧ ∃ (b : Option Int) (bf : V) (y4 y5 y6 : Option V), σ = [some (.ref p), some (.ref l), some (.int r.2), some bf, y4, y5, y6] ∧ (match b with | none => bf = .non | some j => bf = .int j) ∧ faultG none 0 r.1 = faultG b i (r.1.drop i))
      ⟨Same.refl H, none, .non, none, none, none, rfl, rfl, rfl⟩ (fun i σ H' _ hP => hP.1.seq hL) ?_ ?_
    · rintro i v σ H1 H2 hi ⟨sm, b, bf, y4, y5, y6, rfl, hb, hf⟩ ⟨T', u1, u2, rfl, nT, rfl, h1, h2⟩
      cases Option.some.inj h1
      obtain ⟨x, hx, p2, rfl, hp2'⟩ := hP.get h2
      have hp2 : SqT K H p2 [.int x.1, .int x.2] := .inl (.inl hp2')
      have s2 := sm.trans (same_upd (o := .tup [.int (i : Nat), .ref p2]) nT)
      have hdr : r.1.drop i = x :: r.1.drop (i + 1) := by
        have hlt := (List.getElem?_eq_some_iff.mp hx).1
        rw [List.drop_eq_getElem_cons hlt, (List.getElem?_eq_some_iff.mp hx).2]
      rw [hdr] at hf
      replace hf : faultG none 0 r.1 = if badG b x = true then some i else faultG (some x.2) (i + 1) (r.1.drop (i + 1)) := hf
      have err : badG b x = true → ∀ (d : Addr), upd H1 T' (.tup [.int (i : Nat), .ref p2]) d = none → _ := fun hbx d nd => by
        rw [if_pos hbx] at hf
        have hfr : faultR r = some (.int (i : Nat)) := by unfold faultR; rw [hf]
        exact hbad _ hfr _ d (s2.trans (same_upd (o := .xd (vf (.int (i : Nat)))) nd)) upd_same
      have hsc : scal (.int x.2) bf = true ∧ (V.int x.2 = bf ↔ some x.2 = b) := by
        cases b with
        | none => rw [show bf = V.non from hb]; exact ⟨rfl, ⟨(fun z => nomatch z), (fun z => nomatch z)⟩⟩
        | some j => rw [show bf = V.int j from hb]; exact ⟨rfl, ⟨fun z => by cases z; rfl, fun z => by cases z; rfl⟩⟩
      refine ⟨T', _, rfl, .inl (.inl upd_same), rfl, _, _, rfl, _, _, rfl, p2, _, rfl, sameT s2 hp2, rfl, _, _, rfl, _, _, rfl, rfl, rfl, ?_⟩
      refine ⟨_, rfl, _, _, rfl, rfl, _, rfl, ?_⟩
      by_cases c1 : x.1 < 1
      · rw [decide_eq_true c1]
        exact iteT ⟨_, rfl, fun d nd => err (by unfold badG; rw [decide_eq_true c1]; rfl) d nd⟩
      · rw [decide_eq_false c1]
        refine iteF ⟨_, rfl, _, _, rfl, rfl, _, rfl, ?_⟩
        by_cases c2 : x.2 < 0
        · rw [decide_eq_true c2]
          exact iteT ⟨_, rfl, fun d nd => err (by unfold badG; rw [decide_eq_true c2, Bool.or_true]; rfl) d nd⟩
        · rw [decide_eq_false c2]
          refine iteF ⟨_, rfl, _, rfl, hsc.1, _, rfl, ?_⟩
          by_cases c3 : V.int x.2 = bf
          · rw [decide_eq_true c3]
            exact iteT ⟨_, rfl, fun d nd => err (by unfold badG; rw [decide_eq_true (hsc.2.mp c3), Bool.or_true]) d nd⟩
          · rw [decide_eq_false c3]
            have hnb : ¬ badG b x = true := by
              unfold badG
              rw [decide_eq_false c1, decide_eq_false c2, decide_eq_false fun z => c3 (hsc.2.mpr z)]
              decide
            rw [if_neg hnb] at hf
            exact iteF ⟨_, rfl, s2, some x.2, .int x.2, _, _, _, rfl, rfl, hf⟩
    · rintro σ H1 ⟨sm, b, bf, y4, y5, y6, rfl, hb, hf⟩
      rw [List.drop_of_length_le (by omega)] at hf
      replace hf : faultG none 0 r.1 = none := hf
      refine ⟨_, rfl, _, _, rfl, rfl, _, rfl, ?_⟩
      by_cases hr0 : r.2 < 0
      · rw [decide_eq_true hr0]
        have hfr : faultR r = some .non := by unfold faultR; rw [hf, if_pos hr0]
        exact iteT (fun d nd => hbad _ hfr _ d (sm.trans (same_upd nd)) upd_same)
      · rw [decide_eq_false hr0]
        have hfr : faultR r = none := by unfold faultR; rw [hf, if_neg hr0]
        exact iteF (hgood hfr _ sm)
end
end Lw
/-! is_form, check_form on any tuple -/
namespace Lw
open PySem PySem.Spec L2 Lx
theorem scIsFormE : FnScope ["wanted"] ["wanted"] (defScope sIsForm) := ⟨rfl, rfl, rfl, by decide +kernel, rfl, by decide +kernel, by decide +kernel⟩
theorem scChkFormE : FnScope ["wanted"] ["wanted"] (defScope sChkForm) := ⟨rfl, rfl, rfl, by decide +kernel, rfl, by decide +kernel, by decide +kernel⟩
/-- the lengths of the three kinds -/
def kindLen (wd : Str) : Option Nat := if wd = "keep" then some 3 else if wd = "lf" then some 5 else if wd = "cr" then some 4 else none
/-- a tuple's parts: its word and its numbers; or it is empty -/
abbrev Tp := Option (Str × List Int)
def tpV : Tp → List V
  | none => []
  | some (wd, ns) => .str wd :: ns.map V.int
def isFB : Tp → Bool
  | none => false
  | some (wd, ns) => decide (kindLen wd = some (ns.length + 1)) && decide (∀ x ∈ ns, 0 ≤ x) && (decide (wd = "keep") || decide (0 < ns.getD 2 0))
/-- the written table, and words that it lacks -/
structure LenW (K : PySem.W.Frag) (w : World) (mg : Str → Option Value) (aL : Addr) (Ws : Str → Prop) : Prop where
  t : LenT K w mg aL
  no : ∀ z, Ws z → PySem.W.nsIn K aL z = some none
def TpOk (Ws : Str → Prop) : Tp → Prop
  | none => True
  | some (wd, ns) => (kindLen wd ≠ none ∨ Ws wd) ∧ ns.length ≤ 1000
def spIsFB (K : PySem.W.Frag) (Ws : Str → Prop) : Sp := fun vs H Q _ => ∃ (t : Addr) (tp : Tp), vs = [.ref t] ∧ SqT K H t (tpV tp) ∧ TpOk Ws tp ∧ ∀ H', Same H H' → Q (.bl (isFB tp)) H'
def spCfE (K : PySem.W.Frag) (Ws : Str → Prop) (C : Addr) : Sp := fun vs H Q E => ∃ (t : Addr) (tp : Tp), vs = [.ref t] ∧ SqT K H t (tpV tp) ∧ TpOk Ws tp ∧ (isFB tp = true → ∀ H', Same H H' → Q .non H') ∧ (isFB tp = false → ∀ (H' : Hp) (d : Addr), Same H H' → H' d = some (.xd (vf .non)) → E (.ref C) (some d) H')
theorem cutT1 (v : V) (xs : List V) : cutV (v :: xs) (some 1) none = xs := by
  unfold cutV
  have e : HT.sIx (v :: xs).length 0 (some 1) = 1 := by
    unfold HT.sIx
    rw [List.length_cons]
    simp
  rw [e, HT.sIx_none, List.length_cons, List.drop_succ_cons, List.drop_zero, Nat.add_sub_cancel, List.take_length]
theorem whT1 (v : V) (xs : List V) : ¬ (HT.sIx (v :: xs).length 0 (some 1) = 0 ∧ HT.sIx (v :: xs).length (v :: xs).length none = (v :: xs).length) := by
  have e : HT.sIx (v :: xs).length 0 (some 1) = 1 := by
    unfold HT.sIx
    rw [List.length_cons]
    simp
  rw [e]
  intro z
  exact absurd z.1 (by decide)
theorem kl_table {wd : Str} {n : Nat} (h : kindLen wd = some n) : (wd = "keep" ∧ n = 3) ∨ (wd = "lf" ∧ n = 5) ∨ (wd = "cr" ∧ n = 4) := by
  unfold kindLen at h
  by_cases c1 : wd = "keep"
  · rw [if_pos c1] at h; exact .inl ⟨c1, (Option.some.inj h).symm⟩
  · rw [if_neg c1] at h
    by_cases c2 : wd = "lf"
    · rw [if_pos c2] at h; exact .inr (.inl ⟨c2, (Option.some.inj h).symm⟩)
    · rw [if_neg c2] at h
      by_cases c3 : wd = "cr"
      · rw [if_pos c3] at h; exact .inr (.inr ⟨c3, (Option.some.inj h).symm⟩)
      · rw [if_neg c3] at h; cases h
section
variable {P : Program} {w : World} {K : PySem.W.Frag} {mg : Str → Option Value} {base : Heap} {aL : Addr} {Ws : Str → Prop}
theorem LenW.get (T : LenW K w mg aL Ws) {wd : Str} (h : kindLen wd ≠ none ∨ Ws wd) : ∃ (r : Option Value) (v : V), PySem.W.nsIn K aL wd = some r ∧ RelV v (r.getD .none) ∧ (kindLen wd = none ∧ v = .non ∨ ∃ n, kindLen wd = some n ∧ v = .int (n : Nat)) := by
  cases e : kindLen wd with
  | none =>
    have hw := h.resolve_left fun z => z e
    exact ⟨none, .non, T.no wd hw, rfl, .inl ⟨rfl, rfl⟩⟩
  | some n =>
    rcases kl_table e with ⟨rfl, rfl⟩ | ⟨rfl, rfl⟩ | ⟨rfl, rfl⟩
    · obtain ⟨t, ht⟩ := T.t.keep
      exact ⟨_, .int 3, ht, ⟨t, rfl⟩, .inr ⟨3, rfl, rfl⟩⟩
    · obtain ⟨t, ht⟩ := T.t.lf
      exact ⟨_, .int 5, ht, ⟨t, rfl⟩, .inr ⟨5, rfl, rfl⟩⟩
    · obtain ⟨t, ht⟩ := T.t.cr
      exact ⟨_, .int 4, ht, ⟨t, rfl⟩, .inr ⟨4, rfl, rfl⟩⟩
theorem ok_isFB {f : Addr} {fd : FuncData} {k : Nat} (F : Fun K "is_form" "is_form" sIsForm f fd) (T : LenW K w mg aL Ws) (mL : mg "len" = none) (mM : mg "min" = none) : FnOk P w K mg base CX0 (k + 1) f fd ["wanted"] (spIsFB K Ws) := by
  refine F.ok scIsFormE (fun vs H Q E h => ?_) (fun cdv A outer s H vs Q E hr h => ?_)
  · obtain ⟨t, tp, rfl, _⟩ := h
    rfl
  · obtain ⟨p, tp, rfl, hT, hok, q⟩ := h
    refine ⟨_, pss_cons (ps_if (PW.pt (pw_or (pt_not (pt_truth (pv 0) (fun _ => rfl))) (pw_or1 (pt_cmpR op_ne (pe_kget (pe_glob (v := .ref aL) rfl T.t.g rfl) (pe_ix ix_tup (pv 0) pe_int (fun _ _ => rfl)) ⟨rfl, rfl, rfl, rfl⟩) (pe_callB call_len_seq (by rfl) mL PySem.boot_len (pa_cons (pv 0) pa_nil)) (nomark _))))) (pss_one (ps_ret pe_bl)) pss_nil)
      (pss_cons (ps_if (pt_cmpR op_lt (pe_callB (call_minT rfl) (by rfl) mM (by decide +kernel) (pa_cons (pe_slice sl_tup (pv 0) (po_some pe_int) po_none) pa_nil)) pe_int (nomark _)) (pss_one (ps_ret pe_bl)) pss_nil)
      (pss_one (ps_ret (pe_or (pe_cmpR op_eq (pe_ix ix_tup (pv 0) pe_int (fun _ _ => rfl)) pe_str (nomark _)) (pe_one (pe_cmpR op_gt (pe_ix ix_tup (pv 0) pe_int (fun _ _ => rfl)) pe_int (nomark _))))))), ?_⟩
    cases tp with
    | none => exact ⟨_, rfl, false, .inr (.inl ⟨[], hT, rfl⟩), iteT (q _ (Same.refl _))⟩
    | some wn =>
      obtain ⟨wd, ns⟩ := wn
      obtain ⟨hw, hl⟩ := hok
      replace hT : SqT K H p (.str wd :: ns.map V.int) := hT
      obtain ⟨es, dn, D⟩ := T.t.d
      obtain ⟨r, v, hr1, hr2, hv⟩ := T.get hw
      refine ⟨_, rfl, true, .inr (.inl ⟨_, hT, rfl⟩), iteF ?_⟩
      refine ⟨aL, es, dn, rfl, D, _, rfl, p, _, 0, _, rfl, rfl, hT, atI_nat (j := 0) rfl, wd, r, v, rfl, hr1, hr2, ?_⟩
      refine ⟨_, rfl, p, _, rfl, .inr hT, ?_⟩
      have hlen : ((V.str wd :: ns.map V.int).length : Int) = ((ns.length + 1 : Nat) : Int) := by rw [List.length_cons, List.length_map]
      rw [hlen]
      by_cases hk : kindLen wd = some (ns.length + 1)
      · obtain ⟨n, e1, e2⟩ := hv.resolve_left fun z => by rw [z.1] at hk; cases hk
        have en : n = ns.length + 1 := Option.some.inj (e1.symm.trans hk)
        subst en e2
        refine ⟨rfl, _, rfl, ?_⟩
        rw [decide_eq_true rfl]
        refine iteF ?_
        have hn0 : 0 < ns.length := by rcases kl_table hk with ⟨_, h⟩ | ⟨_, h⟩ | ⟨_, h⟩ <;> omega
        refine ⟨_, rfl, 1, rfl, p, _, rfl, hT, whT1 _ _, fun p2 n2 => ?_⟩
        rw [cutT1]
        have s2 := same_upd (o := .tup (ns.map V.int)) n2
        refine ⟨p2, ns, rfl, .inl (.inl upd_same), hn0, fun m hm hmin => ?_⟩
        refine ⟨_, _, rfl, rfl, _, rfl, ?_⟩
        by_cases hneg : m < 0
        · rw [decide_eq_true hneg]
          have hF : isFB (some (wd, ns)) = false := by
            show (_ && _ && _) = false
            rw [decide_eq_false (show ¬ ∀ x ∈ ns, 0 ≤ x from fun z => by have := z m hm; omega), Bool.and_false]
            rfl
          rw [hF] at q
          exact iteT (q _ s2)
        · rw [decide_eq_false hneg]
          have hall : ∀ x ∈ ns, 0 ≤ x := fun x hx => by have := hmin x hx; omega
          have hF : isFB (some (wd, ns)) = (decide (wd = "keep") || decide (0 < ns.getD 2 0)) := by
            show (_ && _ && _) = _
            rw [decide_eq_true hk, decide_eq_true hall]
            rfl
          rw [hF] at q
          refine iteF ?_
          refine ⟨_, rfl, p, _, 0, _, rfl, rfl, sameT s2 hT, atI_nat (j := 0) rfl, rfl, _, rfl, ?_⟩
          by_cases ck : wd = "keep"
          · subst ck
            exact iteT (q _ s2)
          · rw [decide_eq_false fun z => ck (V.str.inj z)]
            rw [decide_eq_false ck, Bool.false_or] at q
            have hn3 : 3 ≤ ns.length := by rcases kl_table hk with ⟨h, _⟩ | ⟨_, h⟩ | ⟨_, h⟩ <;> first | exact absurd h ck | omega
            have hg : ns[2]? = some (ns.getD 2 0) := by
              rw [List.getD_eq_getElem?_getD, List.getElem?_eq_getElem (by omega)]
              rfl
            refine iteF ⟨_, rfl, p, _, 3, .int (ns.getD 2 0), rfl, rfl, sameT s2 hT, atI_nat (j := 3) (by show (ns.map V.int)[2]? = _; rw [List.getElem?_map, hg]; rfl), _, _, rfl, rfl, ?_⟩
            exact q _ s2
      · have hF : isFB (some (wd, ns)) = false := by
          show (_ && _ && _) = false
          rw [decide_eq_false hk]
          rfl
        rw [hF] at q
        rcases hv with ⟨_, rfl⟩ | ⟨n, e1, rfl⟩
        · exact ⟨rfl, _, rfl, iteT (q _ (Same.refl _))⟩
        · refine ⟨rfl, _, rfl, ?_⟩
          rw [decide_eq_false fun z => hk (by rw [e1]; have := V.int.inj z; congr 1; omega)]
          exact iteT (q _ (Same.refl _))
theorem ok_cfE {L : Addr} {C : Nat → Addr} {ini : Nat → Stmt} {f fI : Addr} {fd fdI : FuncData} {k : Nat} (T : ErrT K P.main.file mg L C ini) (F : Fun K "check_form" "check_form" sChkForm f fd) (GI : FnOk P w K mg base CX0 (k + 2) fI fdI ["wanted"] (spIsFB K Ws)) (kI : PySem.W.keepIn K (.ref fI) = true) (bI : Binds K fdI ["wanted"] []) (gI : mg "is_form" = some (.ref fI))
    (ht : (P.main.scope.names.lookup ("super" : Str)).isSome = false) (gs : mg "super" = none) : FnOk P w K mg base (L2.CX P w) (k + 3) f fd ["wanted"] (spCfE K Ws (C 2)) := by
  refine F.okX scChkFormE (fun vs H Q E h => ?_) (fun cdv A outer s H vs Q E hr h => ?_)
  · obtain ⟨t, tp, rfl, _⟩ := h
    rfl
  · obtain ⟨p, tp, rfl, hT, hok, hg, hb⟩ := h
    have hr1 : Room 1 (A.deeper (PyProof.Rows.envOfC "check_form" (defScope sChkForm) s.heap.objs.size f cdv)) := hr.mono (by omega)
    refine ⟨_, pss_one (ps_if (pt_not (pt_val (pe_call GI hr (by rfl) gI kI bI .nil pass0 (pa_cons (pv 0) pa_nil)))) (pss_one (ps_raise rfl (takes_of rfl rfl rfl rfl) (pmk_err T.line T.e2 hr1 ht gs (by rfl) pe_non))) pss_nil), ?_⟩
    refine ⟨_, rfl, p, tp, rfl, hT, hok, fun H' sm => ⟨_, rfl, ?_⟩⟩
    cases e : isFB tp with
    | true => exact iteF (hg e _ sm)
    | false => exact iteT (fun d nd => hb e _ d (sm.trans (same_upd nd)) upd_same)
end
end Lw
/-! methods that may raise, told at the slots; isinstance of a caught error with a tuple of classes -/
namespace Lx
open PySem PySem.Spec L2
section
variable {X : Cx} {CX : CXT} {k : Nat} {C f : Addr} {m : Str} {sp : Sp} {E : St → XK} {o e : Expr} {es : List Expr} {ta : TE} {t : TA} {apos pos : Pos}
theorem run_fnRS {pins : List (Addr × Obj)} {σ : St} {H : Hp} {s : Shared} {Q : VK} {us : List Value} {vs : List V} (F : FnR X.prog X.w X.K X.mg X.base CX k f sp) (hr : Room k X.A) (hx : PassesAt CX X σ (E σ))
    (I : Inv X pins σ H s) (r : Vals vs us) (h : sp vs H Q (E σ)) : wpAny (model X.prog X.w) X.A (call (.ref f) us) (EP X pins σ Q) X.xe s := by
  refine wpAny_call (codeAny_mono (F X.A X.stack s H us vs Q (E σ) hr I.env0 r h) fun r s' hq => ?_)
  cases r with
  | error e => exact hx pins H s e s' I hq
  | ok fl =>
    cases fl with
    | ret u => exact I.after hq
    | next => exact False.elim hq
    | brk => exact False.elim hq
    | cont => exact False.elim hq
/-- o.m(e, ..), o.m() -/
def tMethRS (C : Addr) (m : Str) (sp : Sp) (E : St → XK) (ta : TE) (t : TA) : TE := fun σ H Q => ta σ H fun x H1 => ∃ a dx fs, x = .ref a ∧ H1 a = some (.ins C dx fs) ∧ fs.lookup m = none ∧ t σ H1 fun vs H2 => sp (x :: vs) H2 Q (E σ)
theorem pe_methRS {pl : Sem Bool} (he : PE X o ta) (c : Cls X.K C) (hm : Meth X.K C m f)
    (F : FnR X.prog X.w X.K X.mg X.base CX k f sp) (hr : Room k X.A) (hx : ∀ σ, PassesAt CX X σ (E σ)) (ha : PA X (e :: es) t)
    (hst : starEach (e :: es) X.env = (false, eval e X.env) :: starEach es X.env := by rfl) (hpl : (backTo pos (starEach es X.env)).any (·.1) = false := by rfl)
    (ht : eval (.Call (.Attribute o m apos) (e :: es) [] pos) X.env = (do
      let ov ← eval o X.env
      standAt apos.atName
      let (f, first) ← holding [ov] (getMethod ov m pl)
      callWith pos f first (backTo pos (starEach (e :: es) X.env)) (backToKw pos (keywordEach [] X.env))) := by rfl) :
    PE X (.Call (.Attribute o m apos) (e :: es) [] pos) (tMethRS C m sp E ta t) := by
  refine ⟨fun pins s σ H Q I h => ?_⟩
  refine PySem.W.methodCall_KW (pl := pl) (thn (he.run pins s σ H _ I h) fun u s1 ⟨x, H1, I1, rx, a, dx, fs, ex, ea, l, q⟩ => ?_) ht
  subst ex
  obtain rfl : u = Value.ref a := rx
  refine getmeth_ok I1 ea c hm l ?_
  refine PySem.W.callWith_K (first := [.ref a]) (h₀ := X.base) I.ok.mod.kin hm.kp (thn (ha.run pos pins s1 σ H1 _ I1 q) fun us s2 ⟨vs, H2, I2, r, q2⟩ => ⟨I2.kIn, ?_⟩) hst hpl
  exact run_fnRS (us := .ref a :: us) (vs := .ref a :: vs) F hr (hx σ) I2 (.cons rfl r) q2
theorem pe_methRS0 {pl : Sem Bool} (he : PE X o ta) (c : Cls X.K C) (hm : Meth X.K C m f)
    (F : FnR X.prog X.w X.K X.mg X.base CX k f sp) (hr : Room k X.A) (hx : ∀ σ, PassesAt CX X σ (E σ))
    (ht : eval (.Call (.Attribute o m apos) [] [] pos) X.env = (do
      let ov ← eval o X.env
      standAt apos.atName
      let (f, first) ← holding [ov] (getMethod ov m pl)
      callWith pos f first (backTo pos (starEach [] X.env)) (backToKw pos (keywordEach [] X.env))) := by rfl) :
    PE X (.Call (.Attribute o m apos) [] [] pos) (tMethRS C m sp E ta tNil) := by
  refine ⟨fun pins s σ H Q I h => ?_⟩
  refine PySem.W.methodCall_KW (pl := pl) (thn (he.run pins s σ H _ I h) fun u s1 ⟨x, H1, I1, rx, a, dx, fs, ex, ea, l, q⟩ => ?_) ht
  subst ex
  obtain rfl : u = Value.ref a := rx
  refine getmeth_ok I1 ea c hm l ?_
  exact PySem.W.callWith_K0 (first := [.ref a]) I1.kIn hm.kp (run_fnRS (us := [.ref a]) (vs := [.ref a]) F hr (hx σ) I1 (.cons rfl .nil) q)
/-- isinstance(e, (c1, c2, ..)), e a caught error -/
def rIsXT (K : PySem.W.Frag) : List V → Hp → VK → Prop := fun xs H Q => ∃ (e C d : Addr) (v : V) (tp : Addr) (cs : List V) (us : List Value) (b : Bool), xs = [.ref e, .ref tp] ∧ H e = some (errX e C d) ∧ H d = some (.xd (vf v)) ∧ H tp = some (.tup cs) ∧ Paired ClsV cs us ∧ PySem.W.kitAny K (.ref C) us = some b ∧
  (∃ (file : Str) (mg : Str → Option Value) (L : Addr) (nm qual : Str) (st : Stmt), LineC K mg L ∧ ErrC K file mg L nm qual st C) ∧ Q (.bl b) H
theorem call_isXT : CallR X (.builtin "isinstance") (rIsXT X.K) := by
  intro pins s σ H xs us Q I r h
  obtain ⟨e, C', d, v, tp, cs, ws, b, rfl, he, hd, hT, hc, hk, ⟨file, mg, L', nm', qual', st', TL, T⟩, q⟩ := h
  obtain ⟨u1, u2, rfl, r1, r2⟩ := vals2 r
  obtain rfl : u1 = Value.ref e := r1
  obtain rfl : u2 = Value.ref tp := r2
  obtain ⟨o, vs, ho, o1, o2, o3⟩ := errX_at I.hok he
  obtain ⟨mA, hns, _⟩ := (show ∃ mA, s.heap.Ns1 d mA ∧ ∀ f, RelO ((vf v).lookup f) (mA f) from I.hok d _ hd)
  obtain ⟨od, hod, _⟩ := lookIn_ns hns
  obtain ⟨cd, q1, q2, q3⟩ := T.chain
  obtain ⟨ocls, odict, odata, oslots⟩ := o
  simp only at o1 o2 o3
  subst o1 o2 o3
  have Z : PySem.W.KitX X.K (.ref e) (.ref C') (fun h => PySem.W.InstAt h e { cls := .ref C', dict := some d, data := .fields vs, slots := oslots } C' (some od)) :=
    PySem.W.kitx_exc (by rw [q1]; rfl) T.ga T.gg ((T.under _).trans (by rfl)) T.ca TL.sp TL.tk ((T.under _).trans (by rfl))
  obtain ⟨_, its, rv, o, h1, h2, n, h3⟩ := (show ObjOk X.prog X.w H s.heap tp (.tup cs) from I.hok tp _ hT)
  have e3 := ClsV.all hc rv
  subst e3
  obtain ⟨oc, od2, dt, sl⟩ := o
  simp only at h2 h3
  subst h2 h3
  exact PySem.W.kia_tup Z I.kIn ⟨ho, rfl, rfl, hod⟩ h1 hk (fun z => nomatch z) fun tk => ⟨.bl b, H, I.tok tk, rfl, q⟩
end
section
variable {K : PySem.W.Frag} {file : Str} {mg : Str → Option Value} {L : Addr} {C : Nat → Addr} {ini : Nat → Stmt}
/-- none of these classes is the error's -/
theorem ErrT.kitNone (T : ErrT K file mg L C ini) {i : Nat} (hi : i < 8) : ∀ js : List Nat, (∀ j ∈ js, j < 8 ∧ j ≠ i) → PySem.W.kitAny K (.ref (C i)) (js.map fun j => Value.ref (C j)) = some false
  | [], _ => kitAny_nil
  | j :: js, h => by
    have hj := h j (List.mem_cons_self ..)
    exact kitAny_cons (b := false) ((T.kit hi hj.1).trans (by rw [decide_eq_false fun e => hj.2 e.symm])) (fun _ => T.kitNone hi js fun x hx => h x (List.mem_cons_of_mem _ hx)) (fun z => by cases z)
theorem pairedR {C : Nat → Addr} : ∀ js : List Nat, Paired ClsV (js.map fun j => V.ref (C j)) (js.map fun j => Value.ref (C j))
  | [] => .nil
  | _ :: js => .cons (.own _) (pairedR js)
end
end Lx
/-! a def's promise where nothing is raised, and one where something is: both together -/
namespace Lx
open PySem PySem.Spec L2
section
variable {P : Program} {w : World} {K : PySem.W.Frag} {mg : Str → Option Value} {base : Heap} {k : Nat} {f : Addr} {fd : FuncData} {ps : List Str} {sp sp1 sp2 : Sp} {CX : CXT}
theorem FnOk.up (F : FnOk P w K mg base CX0 k f fd ps sp) : FnOk P w K mg base CX k f fd ps sp := by
  refine ⟨F.len, fun A outer s H args us vs Q E hr e0 hb r hs => ?_⟩
  refine codeAny_mono (F.run A outer s H args us vs Q E hr e0 hb r hs) fun r s' hq => ?_
  cases r with
  | error e => exact False.elim hq
  | ok fl => cases fl <;> exact hq
theorem FnOk.or (F1 : FnOk P w K mg base CX0 k f fd ps sp1) (F2 : FnOk P w K mg base CX k f fd ps sp2) : FnOk P w K mg base CX k f fd ps (fun vs H Q E => sp1 vs H Q E ∨ sp2 vs H Q E) := by
  have F1' := FnOk.up (CX := CX) F1
  refine ⟨fun vs H Q E h => h.elim (F1.len vs H Q E) (F2.len vs H Q E), fun A outer s H args us vs Q E hr e0 hb r hs => ?_⟩
  rcases hs with h | h
  · exact F1'.run A outer s H args us vs Q E hr e0 hb r h
  · exact F2.run A outer s H args us vs Q E hr e0 hb r h
end
end Lx
/-! what is neither a faulty run nor a faulty form is a valid one -/
namespace Lw
open PySem PySem.Spec L2 Lx
theorem faultG_ok {n : Nat} : ∀ (gs : List (Int × Int)) (b : Option Int) (i : Nat), (∀ x ∈ gs, Sm n x.1 ∧ Sm n x.2) → faultG b i gs = none → GsOk n gs ∧ ∀ x, gs[0]? = some x → some x.2 ≠ b
  | [], _, _, _, _ => ⟨fun i x hx => by simp at hx, fun x hx => by simp at hx⟩
  | g :: gs, b, i, hs, h => by
    replace h : (if badG b g = true then some i else faultG (some g.2) (i + 1) gs) = none := h
    by_cases hb : badG b g = true
    · rw [if_pos hb] at h; cases h
    · rw [if_neg hb] at h
      obtain ⟨h1, h2⟩ := faultG_ok gs (some g.2) (i + 1) (fun x hx => hs x (List.mem_cons_of_mem _ hx)) h
      have hg := hs g List.mem_cons_self
      unfold badG at hb
      simp only [Bool.or_eq_true, decide_eq_true_eq, not_or] at hb
      obtain ⟨⟨b1, b2⟩, b3⟩ := hb
      refine ⟨fun j x hx => ?_, fun x hx => by cases Option.some.inj hx; exact b3⟩
      cases j with
      | zero =>
        cases Option.some.inj hx
        refine ⟨by omega, by omega, hg.1, hg.2, fun y hy => ?_⟩
        have := h2 y hy
        exact fun z => this (by rw [z])
      | succ j => exact h1 j x hx
theorem run_valid {n : Nat} {r : List (Int × Int) × Int} (h : faultR r = none) (hs : ∀ x ∈ r.1, Sm n x.1 ∧ Sm n x.2) (h2 : Sm n r.2) (hl : r.1.length ≤ 1000) : RnOk n r := by
  unfold faultR at h
  cases e : faultG none 0 r.1 with
  | some i => rw [e] at h; cases h
  | none =>
    rw [e] at h
    by_cases hr : r.2 < 0
    · replace h : (if r.2 < 0 then some V.non else none) = none := h
      rw [if_pos hr] at h; cases h
    · exact ⟨(faultG_ok r.1 none 0 hs e).1, ⟨by omega, h2⟩, hl⟩
theorem valid_run {n : Nat} {r : List (Int × Int) × Int} (h : RnOk n r) : faultR r = none := by
  have go : ∀ (gs : List (Int × Int)) (b : Option Int) (i : Nat), GsOk n gs → (∀ x, gs[0]? = some x → some x.2 ≠ b) → faultG b i gs = none := fun gs => by
    induction gs with
    | nil => intro _ _ _ _; rfl
    | cons g gs ih =>
      intro b i h hb
      obtain ⟨h1, h2, _, _, h5⟩ := h 0 g rfl
      have hbg : ¬ badG b g = true := by
        unfold badG
        simp only [Bool.or_eq_true, decide_eq_true_eq, not_or]
        exact ⟨⟨by omega, by omega⟩, hb g rfl⟩
      show (if badG b g = true then some i else faultG (some g.2) (i + 1) gs) = none
      rw [if_neg hbg]
      exact ih _ _ (fun j x hx => h (j + 1) x hx) fun x hx => by
        have := h5 x hx
        exact fun z => this (Option.some.inj z)
  unfold faultR
  rw [go r.1 none 0 h.gs fun x _ z => by cases z]
  show (if r.2 < 0 then some V.non else none) = none
  rw [if_neg (by have := h.rest.1; omega)]
/-- the form that a tuple is -/
theorem form_valid {n : Nat} {tp : Tp} (h : isFB tp = true) (hs : ∀ wd ns, tp = some (wd, ns) → ∀ x ∈ ns, Sm n x) : ∃ f : Fm, tpV tp = f.vs ∧ f.Ok n ∧ ∀ wd ns, tp = some (wd, ns) → ns = f.nums := by
  cases tp with
  | none => cases h
  | some wn =>
    obtain ⟨wd, ns⟩ := wn
    replace h : (decide (kindLen wd = some (ns.length + 1)) && decide (∀ x ∈ ns, 0 ≤ x) && (decide (wd = "keep") || decide (0 < ns.getD 2 0))) = true := h
    simp only [Bool.and_eq_true, Bool.or_eq_true, decide_eq_true_eq] at h
    obtain ⟨⟨h1, h2⟩, h3⟩ := h
    have hsm := hs wd ns rfl
    rcases kl_table h1 with ⟨rfl, e⟩ | ⟨rfl, e⟩ | ⟨rfl, e⟩
    · match ns, e, h2, hsm with
      | [b, a], _, h2, hsm =>
        refine ⟨.keep b a, rfl, ⟨h2 b (by simp), h2 a (by simp), hsm b (by simp), hsm a (by simp)⟩, fun _ _ e => ?_⟩
        cases e; rfl
    · match ns, e, h2, hsm, h3 with
      | [b, a, k, c], _, h2, hsm, h3 =>
        have hk : 0 < k := by
          rcases h3 with h3 | h3
          · exact absurd h3 (by decide)
          · exact h3
        refine ⟨.lf b a k c, rfl, ⟨h2 b (by simp), h2 a (by simp), hk, h2 c (by simp), hsm b (by simp), hsm a (by simp), hsm k (by simp), hsm c (by simp)⟩, fun _ _ e => ?_⟩
        cases e; rfl
    · match ns, e, h2, hsm, h3 with
      | [b, a, k], _, h2, hsm, h3 =>
        have hk : 0 < k := by
          rcases h3 with h3 | h3
          · exact absurd h3 (by decide)
          · exact h3
        refine ⟨.cr b a k, rfl, ⟨h2 b (by simp), h2 a (by simp), hk, hsm b (by simp), hsm a (by simp), hsm k (by simp)⟩, fun _ _ e => ?_⟩
        cases e; rfl
/-- a run's fault, or else a form's -/
def RFe (E : XK) (H : Hp) (C1 C2 : Addr) (r : List (Int × Int) × Int) (tp : Tp) : Prop :=
  (∃ v, faultR r = some v ∧ ∀ (H' : Hp) (d : Addr), Same H H' → H' d = some (.xd (vf v)) → E (.ref C1) (some d) H') ∨
  (faultR r = none ∧ isFB tp = false ∧ ∀ (H' : Hp) (d : Addr), Same H H' → H' d = some (.xd (vf .non)) → E (.ref C2) (some d) H')
theorem FnOk.or2 {P : Program} {w : World} {K : PySem.W.Frag} {mg : Str → Option Value} {base : Heap} {k : Nat} {f : Addr} {fd : FuncData} {ps : List Str} {sp1 sp2 : Sp} {CX : CXT} (F1 : FnOk P w K mg base CX k f fd ps sp1) (F2 : FnOk P w K mg base CX k f fd ps sp2) : FnOk P w K mg base CX k f fd ps (fun vs H Q E => sp1 vs H Q E ∨ sp2 vs H Q E) := by
  refine ⟨fun vs H Q E h => h.elim (F1.len vs H Q E) (F2.len vs H Q E), fun A outer s H args us vs Q E hr e0 hb r hs => ?_⟩
  rcases hs with h | h
  · exact F1.run A outer s H args us vs Q E hr e0 hb r h
  · exact F2.run A outer s H args us vs Q E hr e0 hb r h
end Lw
namespace Lw
open PySem PySem.Spec L2 Lx
theorem scMerged : FnScope ["groups", "merged", "many", "j"] ["groups"] (defScope sMerged) := ⟨rfl, rfl, rfl, by decide +kernel, rfl, by decide +kernel, by decide +kernel⟩
def spMerged (K : PySem.W.Frag) : Sp := fun vs H Q _ => ∃ l gs, vs = [.ref l] ∧ GsAt K H l gs ∧ gs.length ≤ 1000 ∧ ∀ p H' xs, H p = none → Same H H' → H' p = some (.lst xs) → Prs K H' xs (merged gs) → Q (.ref p) H'
section
variable {P : Program} {w : World} {K : PySem.W.Frag} {mg : Str → Option Value} {base : Heap} {aL aN aS : Addr}
theorem ok_merged {f : Addr} {fd : FuncData} {k : Nat} (F : Fun K "merged_groups" "merged_groups" sMerged f fd) : FnOk P w K mg base CX0 (k + 1) f fd ["groups"] (spMerged K) := by
  refine F.ok scMerged (fun vs H Q E h => ?_) (fun cdv A outer s H vs Q E hr h => ?_)
  · obtain ⟨l, gs, rfl, _⟩ := h
    rfl
  · obtain ⟨l, gs, rfl, ⟨xs, hL, hP⟩, hlen, q⟩ := h
    refine ⟨_, pss_cons (ps_set (i := 1) scMerged.nd rfl (.inl rfl) (pe_lst pa_nil))
      (pss_cons (ps_for PassesOwn.never rfl (pi_list (pv 0)) (pg_tup (by rfl) (pgs_cons (pg_name (i := 2) scMerged.nd rfl (.inl rfl)) (pgs_cons (pg_name (i := 3) scMerged.nd rfl (.inl rfl)) pgs_nil)))
        (pss_one (ps_if (PW.pt (pw_and (pt_truth (pv 1) (fun _ => rfl)) (pw_and1 (pt_cmpR op_eq (pe_ix ix_tup (pe_ix ix_list (pv 1) (pe_un un_neg pe_int) (fun _ _ => rfl)) pe_int (fun _ _ => rfl)) (pv 3) (nomark _)))))
          (pss_one (ps_asg (pe_tup (pa_cons (pe_op op_add (pe_ix ix_tup (pe_ix ix_list (pv 1) (pe_un un_neg pe_int) (fun _ _ => rfl)) pe_int (fun _ _ => rfl)) (pv 2)) (pa_cons (pv 3) pa_nil))) (pg_sub (pv 1) (pe_un un_neg pe_int) set_list)))
          (pss_one (ps_expr (pe_bm PySem.F.plainAttrs_list PySem.F.slot_list_append PySem.F.type_list_append mt_append (pv 1) (pa_cons (pe_tup (pa_cons (pv 2) (pa_cons (pv 3) pa_nil))) pa_nil)))))))
      (pss_one (ps_ret (pv 1)))), ?_⟩
    refine ⟨Nat.zero_le _, fun p np => ?_⟩
    refine ⟨_, rfl, l, rfl, ⟨_, (same_upd (o := .lst []) np).seq hL⟩, ?_⟩
    refine for_it (walk_list (xs := xs)) (fun i σ H' => Same H H' ∧ ∃ y2 y3 zs, σ = [some (.ref l), some (.ref p), y2, y3] ∧ H' p = some (.lst zs) ∧ Prs K H' zs (merged (gs.take i)) ∧ zs.length ≤ i)
      ⟨same_upd np, none, none, [], rfl, upd_same, .nil, Nat.le_refl _⟩ (fun i σ H' _ hQ => hQ.1.seq hL) ?_ ?_
    · rintro i u σ H1 H2 hi ⟨sm, y2, y3, zs, rfl, hp, hz, hzl⟩ ⟨rfl, hu⟩
      obtain ⟨x, hx, a, rfl, ha'⟩ := hP.get hu
      have ha : SqT K H a [.int x.1, .int x.2] := .inl (.inl ha')
      have htk : merged (gs.take (i + 1)) = addTo (Lx.merged (gs.take i)) x := by
        unfold Lx.merged
        rw [List.take_succ, hx, List.foldl_append]
        rfl
      have ha1 := sameT sm ha
      have hxl := hP.len
      refine ⟨a, _, rfl, ha1, rfl, _, _, rfl, _, _, rfl, rfl, ?_⟩
      refine ⟨_, rfl, !zs.isEmpty, .inl ⟨zs, .inl (.inl hp), rfl⟩, ?_⟩
      have app : ∀ t, H2 t = none → addTo (Lx.merged (gs.take i)) x = Lx.merged (gs.take i) ++ [x] →
          Same H (upd (upd H2 t (.tup [.int x.1, .int x.2])) p (.lst (zs ++ [.ref t]))) ∧ (upd (upd H2 t (.tup [.int x.1, .int x.2])) p (.lst (zs ++ [.ref t]))) p = some (.lst (zs ++ [.ref t])) ∧
          Prs K (upd (upd H2 t (.tup [.int x.1, .int x.2])) p (.lst (zs ++ [.ref t]))) (zs ++ [.ref t]) (merged (gs.take (i + 1))) ∧ (zs ++ [V.ref t]).length ≤ i + 1 := fun t nt e => by
        have s1 := same_upd (o := .tup [.int x.1, .int x.2]) nt
        refine ⟨Same.own (sm.trans s1) np, upd_same, ?_, by rw [List.length_append]; exact Nat.add_le_add_right hzl 1⟩
        rw [htk, e]
        exact Prs.lstUpd (s1 _ _ hp) ((hz.same s1).append (.cons ⟨t, rfl, upd_same⟩ .nil))
      rcases snoc_or (Lx.merged (gs.take i)) with e0 | ⟨as, y, e0⟩
      · have hz0 : zs = [] := by
          have := hz.len
          rw [e0] at this
          exact List.eq_nil_of_length_eq_zero this
        have app' := app
        subst hz0
        refine iteF (iteF ?_)
        refine ⟨_, rfl, .inl ⟨rfl, _, .inl (.inl hp)⟩, _, rfl, _, rfl, by show 2 ≤ sizeLine; decide, fun t nt => ?_⟩
        refine ⟨p, [], .ref t, rfl, rfl, same_upd nt _ _ hp, by rw [sizeLine_eq]; decide, ?_⟩
        obtain ⟨r1, r2, r3, r4⟩ := app t nt (by rw [e0]; rfl)
        exact ⟨r1, _, _, _, rfl, r2, r3, r4⟩
      · rw [e0] at hz
        obtain ⟨ws, v, rfl, hw, a2, rfl, ha2'⟩ := Prs.back hz
        have ha2 : SqT K H2 a2 [.int y.1, .int y.2] := .inl (.inl ha2')
        have hemp : (!(ws ++ [V.ref a2]).isEmpty) = true := by simp
        rw [hemp]
        refine iteT ?_
        refine ⟨_, rfl, 1, rfl, p, _, -1, _, rfl, rfl, .inl (.inl hp), atI_last ws (.ref a2), a2, _, 1, _, rfl, rfl, ha2, atI_nat (j := 1) rfl, _, rfl, rfl, _, rfl, ?_⟩
        by_cases ej : y.2 = x.2
        · rw [decide_eq_true (by rw [ej])]
          refine iteT ?_
          refine ⟨_, rfl, 1, rfl, p, _, -1, _, rfl, rfl, .inl (.inl hp), atI_last ws (.ref a2), a2, _, 0, _, rfl, rfl, ha2, atI_nat (j := 0) rfl, _, rfl, _, _, rfl, rfl, _, rfl, by show 2 ≤ sizeLine; decide, fun t nt => ?_⟩
          have s1 := same_upd (o := .tup [.int (y.1 + x.1), .int x.2]) nt
          refine ⟨_, rfl, 1, rfl, p, _, -1, _, rfl, rfl, s1 _ _ hp, ixN_last ws (.ref a2), ?_⟩
          have eset : (ws ++ [V.ref a2]).set ws.length (.ref t) = ws ++ [V.ref t] := by simp
          rw [eset]
          refine ⟨Same.own (sm.trans s1) np, _, _, ws ++ [.ref t], rfl, upd_same, ?_, ?_⟩
          · rw [htk, e0, addTo_snoc, if_pos ej]
            exact Prs.lstUpd (s1 _ _ hp) ((hw.same s1).append (.cons ⟨t, rfl, upd_same⟩ .nil))
          · simp only [List.length_append, List.length_cons, List.length_nil] at hzl ⊢
            omega
        · rw [decide_eq_false (fun z => ej (V.int.inj z))]
          refine iteF ?_
          refine ⟨_, rfl, .inl ⟨rfl, _, .inl (.inl hp)⟩, _, rfl, _, rfl, by show 2 ≤ sizeLine; decide, fun t nt => ?_⟩
          refine ⟨p, _, .ref t, rfl, rfl, same_upd nt _ _ hp, by rw [sizeLine_eq]; simp only [List.length_append, List.length_cons, List.length_nil] at hzl ⊢; have := hP.len; omega, ?_⟩
          obtain ⟨r1, r2, r3, r4⟩ := app t nt (by rw [e0, addTo_snoc, if_neg ej])
          exact ⟨r1, _, _, _, rfl, r2, r3, r4⟩
    · rintro σ H1 ⟨sm, y2, y3, zs, rfl, hp, hz, hzl⟩
      rw [List.take_of_length_le (by rw [← hP.len]; exact Nat.le_refl _)] at hz
      exact ⟨_, rfl, q p H1 zs np sm hp hz⟩
end
end Lw
namespace Lw
open PySem PySem.Spec L2 Lx
abbrev nRunAft : List Str := ["run", "wanted", "groups", "rest", "many", "j"]
theorem scRunAft : FnScope nRunAft ["run", "wanted"] (defScope sRunAft) := ⟨rfl, rfl, rfl, by decide +kernel, rfl, by decide +kernel, by decide +kernel⟩
theorem scRou : FnScope ["total", "wanted", "number"] ["total", "wanted"] (defScope sRou) := ⟨rfl, rfl, rfl, by decide +kernel, rfl, by decide +kernel, by decide +kernel⟩
def spRou (K : PySem.W.Frag) : Sp := fun vs H Q _ => ∃ t y f n, vs = [.int t, y] ∧ FmAt K H y f ∧ Fm.isKeep f = false ∧ f.Ok n ∧ Sm (2 * n + 20) t ∧ 0 < n ∧ n ≤ 100000 ∧ ∀ v H', Same H H' → NewRn K H H' v (ofUnits t f) → Q v H'
def spRunAft (K : PySem.W.Frag) : Sp := fun vs H Q _ => ∃ x l r y f n, vs = [x, y] ∧ RnAt K H x l r ∧ FmAt K H y f ∧ RnSm n r ∧ f.Ok n ∧ 0 < n ∧ n ≤ 100000 ∧ ∀ v H', Same H H' → NewRn K H H' v (runAfter r f) → Q v H'
section
variable {P : Program} {w : World} {K : PySem.W.Frag} {mg : Str → Option Value} {base : Heap} {aL aN aS : Addr}
theorem ok_rou {f : Addr} {fd : FuncData} {k : Nat} (F : Fun K "run_of_units" "run_of_units" sRou f fd) : FnOk P w K mg base CX0 (k + 1) f fd ["total", "wanted"] (spRou K) := by
  refine F.ok scRou (fun vs H Q E h => ?_) (fun cdv A outer s H vs Q E hr h => ?_)
  · obtain ⟨t, y, f, n, rfl, _⟩ := h
    rfl
  · obtain ⟨tot, _, f, n, rfl, ⟨yp, rfl, hY⟩, hk, hf, hu, hn0, hn, q⟩ := h
    refine ⟨_, pss_cons (ps_set (i := 2) scRou.nd rfl (.inl rfl) (pe_op op_mulW (pe_ix ix_tup (pv 1) pe_int (fun _ _ => rfl)) (pv 0)))
      (pss_cons (ps_if (pt_cmpR op_eq (pe_ix ix_tup (pv 1) pe_int (fun _ _ => rfl)) pe_str (nomark _)) (pss_one (ps_ret (pe_tup (pa_cons (pe_lst pa_nil) (pa_cons (pv 2) pa_nil))))) pss_nil)
      (pss_cons (ps_if (pt_cmpR op_eq (pv 2) pe_int (nomark _)) (pss_one (ps_ret (pe_tup (pa_cons (pe_lst pa_nil) (pa_cons pe_int pa_nil))))) pss_nil)
      (pss_one (ps_ret (pe_tup (pa_cons (pe_lst (pa_cons (pe_tup (pa_cons (pv 2) (pa_cons (pe_ix ix_tup (pv 1) pe_int (fun _ _ => rfl)) pa_nil))) pa_nil)) (pa_cons pe_int pa_nil))))))), ?_⟩
    cases f with
    | keep b a => cases hk
    | cr b a k' =>
      refine ⟨_, rfl, yp, _, 3, _, rfl, rfl, hY, atI_nat (j := 3) rfl, _, rfl, _, _, rfl, rfl, wide_mul hf.2.2.2.2.2 hu hn0 (by omega) (by omega), ?_⟩
      refine ⟨_, rfl, yp, _, 0, _, rfl, rfl, hY, atI_nat (j := 0) rfl, rfl, _, rfl, iteT ?_⟩
      refine ⟨Nat.zero_le _, fun p2 np2 => ⟨_, rfl, by show 2 ≤ sizeLine; decide, fun t nt => ?_⟩⟩
      have s2 := same_upd (o := .lst []) np2
      have s3 := same_upd (o := .tup [.ref p2, .int (k' * tot)]) nt
      exact q _ _ (s2.trans s3) ⟨t, p2, [], rfl, s2.free nt, np2, upd_same, s3 _ _ upd_same, .nil⟩
    | lf b a k' c =>
      refine ⟨_, rfl, yp, _, 3, _, rfl, rfl, hY, atI_nat (j := 3) rfl, _, rfl, _, _, rfl, rfl, wide_mul hf.2.2.2.2.2.2.1 hu hn0 (by omega) (by omega), ?_⟩
      refine ⟨_, rfl, yp, _, 0, _, rfl, rfl, hY, atI_nat (j := 0) rfl, rfl, _, rfl, iteF ?_⟩
      refine ⟨_, rfl, rfl, _, rfl, ?_⟩
      by_cases ez : k' * tot = 0
      · rw [decide_eq_true (show V.int (k' * tot) = V.int 0 by rw [ez])]
        refine iteT ⟨Nat.zero_le _, fun p2 np2 => ⟨by show 2 ≤ sizeLine; decide, fun t nt => ?_⟩⟩
        have s2 := same_upd (o := .lst []) np2
        have s3 := same_upd (o := .tup [.ref p2, .int 0]) nt
        refine q _ _ (s2.trans s3) ?_
        rw [show ofUnits tot (.lf b a k' c) = ([], 0) from if_pos ez]
        exact ⟨t, p2, [], rfl, s2.free nt, np2, upd_same, s3 _ _ upd_same, .nil⟩
      · rw [decide_eq_false (fun z => ez (V.int.inj z))]
        refine iteF ⟨_, rfl, _, rfl, yp, _, 4, _, rfl, rfl, hY, atI_nat (j := 4) rfl, by show 2 ≤ sizeLine; decide, fun g ng => ⟨by show 1 ≤ sizeLine; decide, fun p2 np2 => ⟨by show 2 ≤ sizeLine; decide, fun t nt => ?_⟩⟩⟩
        have s1 := same_upd (o := .tup [.int (k' * tot), .int c]) ng
        have s2 := same_upd (o := .lst [.ref g]) np2
        have s3 := same_upd (o := .tup [.ref p2, .int 0]) nt
        refine q _ _ ((s1.trans s2).trans s3) ?_
        rw [show ofUnits tot (.lf b a k' c) = ([(k' * tot, c)], 0) from if_neg ez]
        exact ⟨t, p2, [.ref g], rfl, (s1.trans s2).free nt, s1.free np2, upd_same, s3 _ _ upd_same, .cons ⟨g, rfl, s3 _ _ (s2 _ _ upd_same)⟩ .nil⟩
theorem ok_runAft {f fS fM fU fR : Addr} {fd fdS fdM fdU fdR : FuncData} {k : Nat} (F : Fun K "run_after" "run_after" sRunAft f fd)
    (GS : FnOk P w K mg base CX0 k fS fdS ["j", "wanted"] (spSigns K)) (kS : PySem.W.keepIn K (.ref fS) = true) (bS : Binds K fdS ["j", "wanted"] []) (gS : mg "signs_after" = some (.ref fS))
    (GM : FnOk P w K mg base CX0 k fM fdM ["groups"] (spMerged K)) (kM : PySem.W.keepIn K (.ref fM) = true) (bM : Binds K fdM ["groups"] []) (gM : mg "merged_groups" = some (.ref fM))
    (GU : FnOk P w K mg base CX0 k fU fdU ["run", "wanted"] (spUnits K)) (kU : PySem.W.keepIn K (.ref fU) = true) (bU : Binds K fdU ["run", "wanted"] []) (gU : mg "units" = some (.ref fU))
    (GR : FnOk P w K mg base CX0 k fR fdR ["total", "wanted"] (spRou K)) (kR : PySem.W.keepIn K (.ref fR) = true) (bR : Binds K fdR ["total", "wanted"] []) (gR : mg "run_of_units" = some (.ref fR)) :
    FnOk P w K mg base CX0 (k + 1) f fd ["run", "wanted"] (spRunAft K) := by
  refine F.ok scRunAft (fun vs H Q E h => ?_) (fun cdv A outer s H vs Q E hr h => ?_)
  · obtain ⟨x, l, r, y, f, n, rfl, _⟩ := h
    rfl
  · obtain ⟨_, l, r, y, f, n, rfl, ⟨p, rfl, hT, xs, hL, hP⟩, ⟨yp, rfl, hY⟩, hs, hf, hn0, hn, q⟩ := h
    refine ⟨_, pss_cons (ps_asg (pv 0) (pg_tup (by rfl) (pgs_cons (pg_name (i := 2) scRunAft.nd rfl (.inl rfl)) (pgs_cons (pg_name (i := 3) scRunAft.nd rfl (.inl rfl)) pgs_nil))))
      (pss_cons (ps_if (pt_cmpR op_eq (pe_ix ix_tup (pv 1) pe_int (fun _ _ => rfl)) pe_str (nomark _)) (pss_one (ps_ret (pe_tup (pa_cons (pe_call GM hr (by rfl) gM kM bM .nil pass0 (pa_cons (pe_lc (own := [("many", 4), ("j", 5)]) (g := gTup K 2 (gCons (gName 4) (gCons (gName 5) gNil))) (tt := tYes) rfl scRunAft.nd (pi_list (pv 2)) (blkOk_by (own := [("many", 4), ("j", 5)]) (N := nRunAft) (sc := defScope sRunAft) (by decide +kernel))
          (fun _ _ _ _ _ => pg_tup (by rfl) (pgs_cons (pg_name (i := 4) scRunAft.nd rfl (.inl rfl)) (pgs_cons (pg_name (i := 5) scRunAft.nd rfl (.inl rfl)) pgs_nil))) (fun _ _ _ _ _ => pts_nil)
          (fun _ _ _ _ _ => pe_tup (pa_cons (pv 4) (pa_cons (pe_call GS hr (by rfl) gS kS bS .nil pass0 (pa_cons (pv 5) (pa_cons (pv 1) pa_nil))) pa_nil)))) pa_nil)) (pa_cons (pv 3) pa_nil))))) pss_nil)
      (pss_one (ps_ret (pe_call GR hr (by rfl) gR kR bR .nil pass0 (pa_cons (pe_call GU hr (by rfl) gU kU bU .nil pass0 (pa_cons (pv 0) (pa_cons (pv 1) pa_nil))) (pa_cons (pv 1) pa_nil)))))), ?_⟩
    refine ⟨_, rfl, p, _, rfl, hT, rfl, _, _, rfl, _, _, rfl, rfl, ?_⟩
    refine ⟨_, rfl, yp, _, 0, _, rfl, rfl, hY, atI_nat (j := 0) f.vs0, rfl, _, rfl, ?_⟩
    have hu := units_ok hs hf
    cases f with
    | keep b a =>
      refine iteT ⟨_, rfl, l, rfl, ⟨_, hL⟩, fun D nD => ?_⟩
      refine lc_it (walk_list (xs := xs)) (fun i H' => Same H H' ∧ ∃ zs, H' D = some (.lst zs) ∧ Prs K H' zs (moved (.keep b a) (r.1.take i))) ⟨same_upd nD, [], upd_same, .nil⟩ (fun i H' _ hQ => hQ.1.seq hL) ?_ ?_
      · rintro i u H1 H2 hi ⟨sm, zs, hD, hz⟩ ⟨rfl, hu⟩
        obtain ⟨x, hx, ap, rfl, ha'⟩ := hP.get hu
        have ha : SqT K H ap [.int x.1, .int x.2] := .inl (.inl ha')
        refine ⟨ap, _, rfl, sameT sm ha, rfl, _, _, rfl, _, _, rfl, rfl, rfl, ?_⟩
        refine ⟨_, rfl, _, rfl, _, rfl, x.2, _, .keep b a, rfl, ⟨yp, rfl, sameT sm hY⟩, by show 2 ≤ sizeLine; decide, fun t nt => ?_⟩
        have s1 := same_upd (o := .tup [.int x.1, .int ((Fm.keep b a).after x.2)]) nt
        have hzl : zs.length ≤ 1000 := by
          have e1 := hz.len
          have e2 := hs.2.2.2
          unfold moved at e1
          rw [List.length_map, List.length_take] at e1
          omega
        refine ⟨zs, s1 _ _ hD, by rw [sizeLine_eq]; omega, Same.own (sm.trans s1) nD, _, upd_same, ?_⟩
        have e : moved (.keep b a) (r.1.take (i + 1)) = moved (.keep b a) (r.1.take i) ++ [(x.1, (Fm.keep b a).after x.2)] := by
          unfold moved
          rw [List.take_succ, hx, List.map_append]
          rfl
        rw [e]
        exact Prs.lstUpd (s1 _ _ hD) ((hz.same s1).append (.cons ⟨t, rfl, upd_same⟩ .nil))
      · rintro H1 ⟨sm, zs, hD, hz⟩
        rw [List.take_of_length_le (by rw [← hP.len]; exact Nat.le_refl _)] at hz
        have hml : (moved (.keep b a) r.1).length ≤ 1000 := by
          unfold moved
          rw [List.length_map]
          exact hs.2.2.2
        refine ⟨D, _, rfl, ⟨zs, .inl (.inl hD), hz⟩, hml, fun p2 H2 ws np2 s2 hp2 hw => ?_⟩
        refine ⟨_, rfl, by show 2 ≤ sizeLine; decide, fun t nt => ?_⟩
        have s3 := same_upd (o := .tup [.ref p2, .int r.2]) nt
        exact q _ _ ((sm.trans s2).trans s3) ⟨t, p2, ws, rfl, (sm.trans s2).free nt, sm.free np2, upd_same, s3 _ _ hp2, hw.same s3⟩
    | cr b a k' =>
      refine iteF ⟨_, rfl, _, rfl, _, l, r, _, .cr b a k', n, rfl, ⟨p, rfl, hT, xs, hL, hP⟩, ⟨yp, rfl, hY⟩, hs, hf, hn, fun H1 sm => ?_⟩
      refine ⟨_, rfl, _, _, .cr b a k', n, rfl, ⟨yp, rfl, sameT sm hY⟩, rfl, hf, hu.2, hn0, hn, fun v H2 s2 hv => q v H2 (sm.trans s2) (NewRn.back sm hv)⟩
    | lf b a k' c =>
      refine iteF ⟨_, rfl, _, rfl, _, l, r, _, .lf b a k' c, n, rfl, ⟨p, rfl, hT, xs, hL, hP⟩, ⟨yp, rfl, hY⟩, hs, hf, hn, fun H1 sm => ?_⟩
      refine ⟨_, rfl, _, _, .lf b a k' c, n, rfl, ⟨yp, rfl, sameT sm hY⟩, rfl, hf, hu.2, hn0, hn, fun v H2 s2 hv => q v H2 (sm.trans s2) (NewRn.back sm hv)⟩
end
end Lw
namespace Lw
open PySem PySem.Spec L2 Lx
theorem scStays : FnScope ["run", "wanted"] ["run", "wanted"] (defScope sStays) := ⟨rfl, rfl, rfl, by decide +kernel, rfl, by decide +kernel, by decide +kernel⟩
def spStays (K : PySem.W.Frag) : Sp := fun vs H Q _ => ∃ x l r y f n, vs = [x, y] ∧ RnAt K H x l r ∧ FmAt K H y f ∧ RnOk n r ∧ f.Ok n ∧ 0 < n ∧ n ≤ 100000 ∧ Dq K H x (rd r) ∧ ∀ H', Same H H' → Q (.bl (PyData.eqv (rd (runAfter r f)) (rd r))) H'
section
variable {P : Program} {w : World} {K : PySem.W.Frag} {mg : Str → Option Value} {base : Heap}
theorem ok_stays {f aR aF aA : Addr} {fd dR dF dA : FuncData} {k : Nat} (F : Fun K "stays" "stays" sStays f fd)
    (cR : Cl P w K mg base k "check_run" ["run"] (spChkRun K) aR dR)
    (cF : Cl P w K mg base k "check_form" ["wanted"] (spChkForm K) aF dF)
    (cA : Cl P w K mg base k "run_after" ["run", "wanted"] (spRunAft K) aA dA) : FnOk P w K mg base CX0 (k + 1) f fd ["run", "wanted"] (spStays K) := by
  refine F.ok scStays (fun vs H Q E h => ?_) (fun cdv A outer s H vs Q E hr h => ?_)
  · obtain ⟨x, l, r, y, f, n, rfl, _⟩ := h
    rfl
  · obtain ⟨x, l, r, y, f, n, rfl, hR, hY, ho, hf, hn0, hn, hd, q⟩ := h
    refine ⟨_, (pss_cons (ps_expr (pe_call cR.G hr (by rfl) cR.g cR.kp cR.b .nil pass0 (pa_cons (pv 0) pa_nil)))
      (pss_cons (ps_expr (pe_call cF.G hr (by rfl) cF.g cF.kp cF.b .nil pass0 (pa_cons (pv 1) pa_nil)))
      (pss_one (ps_ret (pe_cmpR (op_eqD hr.units) (pe_call cA.G hr (by rfl) cA.g cA.kp cA.b .nil pass0 (pa_cons (pv 0) (pa_cons (pv 1) pa_nil))) (pv 0) (nomark _)))))), ?_⟩
    refine ⟨_, rfl, x, l, r, n, rfl, hR, ho, fun H1 s1 => ⟨_, rfl, y, f, n, rfl, hY.same s1, hf, fun H2 s2 => ?_⟩⟩
    have s := s1.trans s2
    refine ⟨_, rfl, _, rfl, x, l, r, y, f, n, rfl, hR.same s, hY.same s, RnOk.sm ho, hf, hn0, hn, fun v H3 s3 hv => ?_⟩
    obtain ⟨l3, nl3, hx3⟩ := hv.s
    exact ⟨_, rfl, rd _, rd _, hx3.dq.dp, (hd.same (s.trans s3)).dp, rd_shaped _, rd_shaped _, q _ (s.trans s3)⟩
end
end Lw
namespace Lw
open PySem PySem.Spec L2 Lx
/-! ### equal data -/
theorem pd_eqv : ∀ (a b : List (Int × Int)), PyData.eqvAll (pd a) (pd b) = decide (a = b)
  | [], [] => rfl
  | [], _ :: _ => rfl
  | _ :: _, [] => rfl
  | x :: xs, y :: ys => by
    have ih := pd_eqv xs ys
    unfold pd at ih ⊢
    simp only [List.map_cons, PyData.eqvAll, PyData.eqv, Bool.and_true, ih]
    obtain ⟨x1, x2⟩ := x
    obtain ⟨y1, y2⟩ := y
    by_cases h1 : x1 = y1 <;> by_cases h2 : x2 = y2 <;> by_cases h3 : xs = ys <;> simp [h1, h2, h3]
theorem rd_eqv (a b : List (Int × Int) × Int) : PyData.eqv (rd a) (rd b) = decide (a = b) := by
  have h := pd_eqv a.1 b.1
  unfold rd
  simp only [PyData.eqv, PyData.eqvAll, h, Bool.and_true]
  obtain ⟨a1, a2⟩ := a
  obtain ⟨b1, b2⟩ := b
  by_cases h1 : a1 = b1 <;> by_cases h2 : a2 = b2 <;> simp [h1, h2]
theorem fm_dp {K : PySem.W.Frag} {H : Hp} {x : V} {f : Fm} : FmAt K H x f → Dp K H x (fdt f) := fun ⟨p, e, h⟩ => by
  subst e
  cases f with
  | keep b a => exact .tup h (.cons (.str _) (.cons (.int _) (.cons (.int _) .nil)))
  | lf b a k c => exact .tup h (.cons (.str _) (.cons (.int _) (.cons (.int _) (.cons (.int _) (.cons (.int _) .nil)))))
  | cr b a k => exact .tup h (.cons (.str _) (.cons (.int _) (.cons (.int _) (.cons (.int _) .nil))))
theorem fdt_shaped (f : Fm) : SeqAt.shaped (fdt f) = true := by
  cases f <;> (unfold SeqAt.shaped fdt; simp [PyData.canLay0, PyData.canLayAll0, PyData.depth, PyData.depthAll]; decide +kernel)
theorem fdt_eqv (f g : Fm) : PyData.eqv (fdt f) (fdt g) = true ↔ f = g := by
  cases f <;> cases g <;> simp [fdt, PyData.eqv, PyData.eqvAll] <;> decide
/-! ### runs in a list -/
inductive Rns (K : PySem.W.Frag) (H : Hp) : List V → List (List (Int × Int) × Int) → Prop
  | nil : Rns K H [] []
  | cons {v : V} {vs : List V} {r : List (Int × Int) × Int} {rs : List (List (Int × Int) × Int)} : (∃ l, RnS K H v l r) → Rns K H vs rs → Rns K H (v :: vs) (r :: rs)
theorem Rns.same {K : PySem.W.Frag} {H H' : Hp} (s : Same H H') : ∀ {vs rs}, Rns K H vs rs → Rns K H' vs rs
  | _, _, .nil => .nil
  | _, _, .cons ⟨l, h⟩ t => .cons ⟨l, h.same s⟩ (t.same s)
theorem Rns.len {K : PySem.W.Frag} {H : Hp} : ∀ {vs rs}, Rns K H vs rs → vs.length = rs.length
  | _, _, .nil => rfl
  | _, _, .cons _ t => by rw [List.length_cons, List.length_cons, t.len]
theorem Rns.get {K : PySem.W.Frag} {H : Hp} : ∀ {vs rs}, Rns K H vs rs → ∀ {i : Nat} {v : V}, vs[i]? = some v → ∃ r l, rs[i]? = some r ∧ RnS K H v l r
  | _, _, .nil, i, v, h => by simp at h
  | _, _, .cons ⟨l, h1⟩ t, 0, v, h => by
    have e := Option.some.inj h
    subst e
    exact ⟨_, l, rfl, h1⟩
  | _, _, .cons h1 t, i + 1, v, h => t.get (i := i) h
theorem Rns.append {K : PySem.W.Frag} {H : Hp} : ∀ {vs ws rs qs}, Rns K H vs rs → Rns K H ws qs → Rns K H (vs ++ ws) (rs ++ qs)
  | _, _, _, _, .nil, h => h
  | _, _, _, _, .cons a t, h => .cons a (t.append h)
/-! ### forms that do the same twice -/
def sizesOf (f : Fm) : List Int := [0, 1, f.b, f.a, f.b + f.a, 2 * f.nums.sum + 5]
def tests (f : Fm) : List (List (Int × Int) × Int) := [([], 1), ([], 3)] ++ (sizesOf f).map fun j => ([(1, j)], 0)
theorem tests_ok {n : Nat} {f : Fm} (h : f.Ok n) : ∀ r ∈ tests f, RnOk (n + 10) r := by
  have hb := h.b0
  have ha := h.a0
  have one : ∀ z : Int, 0 ≤ z → z ≤ 5 → Sm (n + 10) z := fun z h0 h1 => Nat.lt_of_lt_of_le (show z.natAbs < 2 ^ 10 by
    have : (2 : Nat) ^ 10 = 1024 := by decide
    omega) (Nat.pow_le_pow_right (by decide) (by omega))
  have hs : 0 ≤ f.nums.sum ∧ Sm (n + 3) f.nums.sum := by
    have pw : 2 ^ (n + 3) = 2 ^ n * 8 := Nat.pow_add 2 n 3
    cases f with
    | keep b a =>
      obtain ⟨h1, h2, h3, h4⟩ := h
      unfold Sm at *
      simp only [Fm.nums, List.sum_cons, List.sum_nil]
      rw [pw]
      generalize 2 ^ n = M at *
      omega
    | lf b a k c =>
      obtain ⟨h1, h2, h3, h4, h5, h6, h7, h8⟩ := h
      unfold Sm at *
      simp only [Fm.nums, List.sum_cons, List.sum_nil]
      rw [pw]
      generalize 2 ^ n = M at *
      omega
    | cr b a k =>
      obtain ⟨h1, h2, h3, h4, h5, h6⟩ := h
      unfold Sm at *
      simp only [Fm.nums, List.sum_cons, List.sum_nil]
      rw [pw]
      generalize 2 ^ n = M at *
      omega
  have r0 : ∀ e : Int, 0 ≤ e → e ≤ 5 → RnOk (n + 10) ([], e) := fun e e0 e1 => ⟨fun i x hx => by simp at hx, ⟨e0, one e e0 e1⟩, Nat.zero_le _⟩
  have r1 : ∀ j : Int, 0 ≤ j → Sm (n + 10) j → RnOk (n + 10) ([(1, j)], 0) := fun j j0 j1 => ⟨gsok_snoc (gs := []) (fun i x hx => by simp at hx) (fun a y e => by simp at e) ⟨by show (1 : Int) ≤ 1; decide, j0, one 1 (by decide) (by decide), j1⟩, ⟨(by decide : (0 : Int) ≤ 0), one 0 (by decide) (by decide)⟩, by show 1 ≤ 1000; decide⟩
  have m : ∀ {z : Int} {k : Nat}, k ≤ n + 10 → Sm k z → Sm (n + 10) z := fun h1 h2 => h2.mono h1
  have pw4 : Sm (n + 10) (2 * f.nums.sum + 5) := by
    have e : 2 ^ (n + 10) = 2 ^ (n + 3) * 128 := by rw [show n + 10 = (n + 3) + 7 from rfl, Nat.pow_add]
    have e1 : 1 ≤ 2 ^ (n + 3) := Nat.one_le_two_pow
    have h1 := hs.2
    unfold Sm at *
    rw [e]
    generalize 2 ^ (n + 3) = M at *
    omega
  intro r hr
  have hr' : r ∈ [([], 1), ([], 3), ([(1, 0)], 0), ([(1, 1)], 0), ([(1, f.b)], 0), ([(1, f.a)], 0), ([(1, f.b + f.a)], 0), ([(1, 2 * f.nums.sum + 5)], (0 : Int))] := hr
  simp only [List.mem_cons, List.not_mem_nil, or_false] at hr'
  rcases hr' with rfl | rfl | rfl | rfl | rfl | rfl | rfl | rfl
  · exact r0 1 (by decide) (by decide)
  · exact r0 3 (by decide) (by decide)
  · exact r1 0 (by decide) (one 0 (by decide) (by decide))
  · exact r1 1 (by decide) (one 1 (by decide) (by decide))
  · exact r1 _ hb.1 (m (by omega) hb.2)
  · exact r1 _ ha.1 (m (by omega) ha.2)
  · exact r1 _ (by omega) (m (by omega) (hb.2.add ha.2))
  · exact r1 _ (by have := hs.1; omega) pw4
theorem sum_ge {n : Nat} {f : Fm} (h : f.Ok n) : f.b ≤ f.nums.sum := by
  cases f with
  | keep b a =>
    obtain ⟨h1, h2, _⟩ := h
    simp only [Fm.nums, List.sum_cons, List.sum_nil, Fm.b]
    omega
  | lf b a k c =>
    obtain ⟨h1, h2, h3, h4, _⟩ := h
    simp only [Fm.nums, List.sum_cons, List.sum_nil, Fm.b]
    omega
  | cr b a k =>
    obtain ⟨h1, h2, h3, _⟩ := h
    simp only [Fm.nums, List.sum_cons, List.sum_nil, Fm.b]
    omega
theorem run1 (b a j : Int) : runAfter ([(1, j)], 0) (.keep b a) = ([(1, (Fm.keep b a).after j)], 0) := rfl
theorem twice {n : Nat} {f : Fm} (h : f.Ok n) : f.both f = f ↔ ∀ r ∈ tests f, runAfter (runAfter r f) f = runAfter r f := by
  constructor
  · intro e r _
    rw [runAfter_both, e]
  · intro ht
    have t1 := ht ([], 1) (by unfold tests; simp)
    rw [runAfter_both] at t1
    cases f with
    | keep b a =>
      have one : ∀ j : Int, (([(1, j)], 0) : List (Int × Int) × Int) ∈ tests (.keep b a) → ((Fm.keep b a).both (.keep b a)).after j = (Fm.keep b a).after j := fun j hj => by
        have e := ht _ hj
        rw [runAfter_both] at e
        have eb : (Fm.keep b a).both (.keep b a) = .keep (b + if b - a > 0 then b - a else 0) ((if a - b > 0 then a - b else 0) + a) := rfl
        rw [eb] at e ⊢
        rw [run1, run1] at e
        injection e with e1 e2
        injection e1 with e3 e4
        injection e3
      have s1 := one 0 (by unfold tests sizesOf; simp)
      have s2 := one (2 * (Fm.keep b a).nums.sum + 5) (by unfold tests sizesOf; simp)
      have hs := sum_ge h
      obtain ⟨b0, a0, _, _⟩ := h
      have p1 := pp (b - a)
      have p2 := pp (a - b)
      simp only [Fm.both, Fm.ahead, Fm.after, Fm.b, Fm.a, Fm.nums, List.sum_cons, List.sum_nil] at s1 s2 hs ⊢
      generalize (if b - a > 0 then b - a else 0) = A at *
      generalize (if a - b > 0 then a - b else 0) = B at *
      have p3 := pp (0 - (b + A))
      have p4 := pp (0 - b)
      have p5 := pp (2 * (b + (a + 0)) + 5 - (b + A))
      have p6 := pp (2 * (b + (a + 0)) + 5 - b)
      congr 1 <;> omega
    | lf b a k c =>
      obtain ⟨b0, a0, k0, c0, _⟩ := h
      have u0 : 0 ≤ (Fm.lf b a k c).after c := by
        have := pp (c - b)
        show 0 ≤ (if c - b > 0 then c - b else 0) + a
        omega
      have kk : 0 < k * ((Fm.lf b a k c).after c + 1) * k := Int.mul_pos (Int.mul_pos k0 (by omega)) k0
      have un : ∀ g : Fm, units ([], 1) g = 1 := fun g => units_none 1 g
      have e1 : runAfter ([], 1) (.lf b a k c) = ([(k, c)], 0) := by
        show (if k * units ([], 1) (.lf b a k c) = 0 then (([] : List (Int × Int)), (0 : Int)) else ([(k * units ([], 1) (.lf b a k c), c)], 0)) = _
        rw [un, Int.mul_one, if_neg (by omega)]
      have e2 : runAfter ([], 1) ((Fm.lf b a k c).both (.lf b a k c)) = ([(k * ((Fm.lf b a k c).after c + 1) * k, c)], 0) := by
        show (if (k * ((Fm.lf b a k c).after c + 1) * k) * units ([], 1) (.lf b a (k * ((Fm.lf b a k c).after c + 1) * k) c) = 0 then (([] : List (Int × Int)), (0 : Int)) else ([((k * ((Fm.lf b a k c).after c + 1) * k) * units ([], 1) (.lf b a (k * ((Fm.lf b a k c).after c + 1) * k) c), c)], 0)) = _
        rw [un, Int.mul_one, if_neg (by omega)]
      rw [e1, e2] at t1
      injection t1 with t2 t3
      injection t2 with t4 t5
      injection t4 with t6 t7
      show Fm.lf b a (k * ((Fm.lf b a k c).after c + 1) * k) c = _
      rw [t6]
    | cr b a k =>
      have un : ∀ g : Fm, units ([], 1) g = 1 := fun g => units_none 1 g
      have t2 : (([] : List (Int × Int)), (k * 1 * k) * units ([], 1) (.cr b a (k * 1 * k))) = ([], k * units ([], 1) (.cr b a k)) := t1
      rw [un, un, Int.mul_one, Int.mul_one k] at t2
      injection t2 with t3 t4
      show Fm.cr b a (k * 1 * k) = _
      rw [Int.mul_one, t4]
end Lw
namespace Lw
open PySem PySem.Spec L2 Lx
theorem scAftKeep : FnScope ["first", "second", "_", "b", "a", "more_b", "b_of_both", "a_of_both"] ["first", "second"] (defScope sAftKeep) := ⟨rfl, rfl, rfl, by decide +kernel, rfl, by decide +kernel, by decide +kernel⟩
theorem scBefKeep : FnScope ["first", "second"] ["first", "second"] (defScope sBefKeep) := ⟨rfl, rfl, rfl, by decide +kernel, rfl, by decide +kernel, by decide +kernel⟩
theorem scOne : FnScope ["first", "second"] ["first", "second"] (defScope sOne) := ⟨rfl, rfl, rfl, by decide +kernel, rfl, by decide +kernel, by decide +kernel⟩
def spAftKeep (K : PySem.W.Frag) : Sp := fun vs H Q _ => ∃ x y b a g, vs = [x, y] ∧ FmAt K H x (.keep b a) ∧ FmAt K H y g ∧ ∀ v H', Same H H' → FmAt K H' v ((Fm.keep b a).both g) → Q v H'
def spBefKeep (K : PySem.W.Frag) : Sp := fun vs H Q _ => ∃ x y f b a, vs = [x, y] ∧ FmAt K H x f ∧ Fm.isKeep f = false ∧ FmAt K H y (.keep b a) ∧ ∀ v H', Same H H' → FmAt K H' v (f.both (.keep b a)) → Q v H'
def spOne (K : PySem.W.Frag) : Sp := fun vs H Q _ => ∃ x y f g, vs = [x, y] ∧ FmAt K H x f ∧ Fm.isKeep f = false ∧ FmAt K H y g ∧ Q (.int (Fm.one f g)) H
section
variable {P : Program} {w : World} {K : PySem.W.Frag} {mg : Str → Option Value} {base : Heap} {aL aN aS : Addr}
theorem ok_one {f fS : Addr} {fd fdS : FuncData} {k : Nat} (F : Fun K "units_of_one" "units_of_one" sOne f fd) (GS : FnOk P w K mg base CX0 k fS fdS ["j", "wanted"] (spUog K)) (kS : PySem.W.keepIn K (.ref fS) = true) (bS : Binds K fdS ["j", "wanted"] []) (gS : mg "units_of_group" = some (.ref fS)) :
    FnOk P w K mg base CX0 (k + 1) f fd ["first", "second"] (spOne K) := by
  refine F.ok scOne (fun vs H Q E h => ?_) (fun cdv A outer s H vs Q E hr h => ?_)
  · obtain ⟨x, y, f, g, rfl, _⟩ := h
    rfl
  · obtain ⟨_, y, f, g, rfl, ⟨p, rfl, hT⟩, hk, hy, q⟩ := h
    refine ⟨_, pss_cons (ps_if (pt_cmpR op_eq (pe_ix ix_tup (pv 0) pe_int (fun _ _ => rfl)) pe_str (nomark _)) (pss_one (ps_ret pe_int)) pss_nil)
      (pss_one (ps_ret (pe_call GS hr (by rfl) gS kS bS .nil pass0 (pa_cons (pe_ix ix_tup (pv 0) pe_int (fun _ _ => rfl)) (pa_cons (pv 1) pa_nil))))), ?_⟩
    refine ⟨_, rfl, p, _, 0, _, rfl, rfl, hT, atI_nat (j := 0) f.vs0, rfl, _, rfl, ?_⟩
    cases f with
    | keep b a => cases hk
    | lf b a k c => exact iteF ⟨_, rfl, p, _, 4, _, rfl, rfl, hT, atI_nat (j := 4) rfl, _, rfl, _, _, _, rfl, hy, q⟩
    | cr b a k => exact iteT q
theorem ok_aftKeep {f : Addr} {fd : FuncData} {k : Nat} (F : Fun K "after_keep" "after_keep" sAftKeep f fd) (mX : mg "max" = none) : FnOk P w K mg base CX0 (k + 1) f fd ["first", "second"] (spAftKeep K) := by
  refine F.ok scAftKeep (fun vs H Q E h => ?_) (fun cdv A outer s H vs Q E hr h => ?_)
  · obtain ⟨x, y, b, a, g, rfl, _⟩ := h
    rfl
  · obtain ⟨_, _, b, a, g, rfl, ⟨p, rfl, hT⟩, ⟨r, rfl, hG⟩, q⟩ := h
    refine ⟨_, pss_cons (ps_asg (pv 0) (pg_tup (by rfl) (pgs_cons (pg_name (i := 2) scAftKeep.nd rfl (.inl rfl)) (pgs_cons (pg_name (i := 3) scAftKeep.nd rfl (.inl rfl)) (pgs_cons (pg_name (i := 4) scAftKeep.nd rfl (.inl rfl)) pgs_nil)))))
      (pss_cons (ps_set (i := 5) scAftKeep.nd rfl (.inl rfl) (pe_ix ix_tup (pv 1) pe_int (fun _ _ => rfl)))
      (pss_cons (ps_set (i := 6) scAftKeep.nd rfl (.inl rfl) (pe_op op_add (pv 3) (pe_callB (call_max2 rfl) (by rfl) mX (by decide +kernel) (pa_cons pe_int (pa_cons (pe_op op_sub (pv 5) (pv 4)) pa_nil)))))
      (pss_cons (ps_set (i := 7) scAftKeep.nd rfl (.inl rfl) (pe_op op_add (pe_callB (call_max2 rfl) (by rfl) mX (by decide +kernel) (pa_cons pe_int (pa_cons (pe_op op_sub (pv 4) (pv 5)) pa_nil))) (pe_ix ix_tup (pv 1) pe_int (fun _ _ => rfl))))
      (pss_one (ps_ret (pe_op op_catA (pe_tup (pa_cons (pe_ix ix_tup (pv 1) pe_int (fun _ _ => rfl)) (pa_cons (pv 6) (pa_cons (pv 7) pa_nil)))) (pe_slice sl_tup (pv 1) (po_some pe_int) po_none))))))), ?_⟩
    refine ⟨_, rfl, p, _, rfl, hT, rfl, _, _, rfl, _, _, rfl, _, _, rfl, rfl, ?_⟩
    refine ⟨_, rfl, r, _, 1, _, rfl, rfl, hG, atI_nat (j := 1) g.vs1, ?_⟩
    refine ⟨_, rfl, _, rfl, _, rfl, _, _, rfl, rfl, _, _, rfl, _, _, rfl, rfl, ?_⟩
    refine ⟨_, rfl, _, rfl, _, _, rfl, rfl, _, _, rfl, _, rfl, r, _, 2, _, rfl, rfl, hG, atI_nat (j := 2) g.vs2, _, _, rfl, rfl, ?_⟩
    refine ⟨_, rfl, r, _, 0, _, rfl, rfl, hG, atI_nat (j := 0) g.vs0, _, rfl, _, rfl, by show 3 ≤ sizeLine; decide, fun t nt => ?_⟩
    have s1 : Same H (upd H t (.tup [.str g.nm, .int (b + (if g.b - a > 0 then g.b - a else 0)), .int ((if a - g.b > 0 then a - g.b else 0) + g.a)])) := same_upd nt
    have ht1 : upd H t (.tup [.str g.nm, .int (b + (if g.b - a > 0 then g.b - a else 0)), .int ((if a - g.b > 0 then a - g.b else 0) + g.a)]) t = some (.tup [.str g.nm, .int (b + (if g.b - a > 0 then g.b - a else 0)), .int ((if a - g.b > 0 then a - g.b else 0) + g.a)]) := upd_same
    show tSl _ _ _ _ _ (upd H t (.tup [.str g.nm, .int (b + (if g.b - a > 0 then g.b - a else 0)), .int ((if a - g.b > 0 then a - g.b else 0) + g.a)])) _
    generalize upd H t (.tup [.str g.nm, .int (b + (if g.b - a > 0 then g.b - a else 0)), .int ((if a - g.b > 0 then a - g.b else 0) + g.a)]) = H1 at s1 ht1
    refine ⟨_, rfl, 3, rfl, r, g.vs, rfl, sameT s1 hG, wh3 g, fun p2 n2 => ?_⟩
    have s2 := s1.trans (same_upd (o := .tup (cutV g.vs (some 3) none)) n2)
    have ht2 : SqT K (upd H1 p2 (.tup (cutV g.vs (some 3) none))) t [.str g.nm, .int (b + (if g.b - a > 0 then g.b - a else 0)), .int ((if a - g.b > 0 then a - g.b else 0) + g.a)] := .inl (.inl (by rw [upd_ne (ne_of_none ht1 n2)]; exact ht1))
    have hp2 : SqT K (upd H1 p2 (.tup (cutV g.vs (some 3) none))) p2 (cutV g.vs (some 3) none) := .inl (.inl upd_same)
    generalize upd H1 p2 (.tup (cutV g.vs (some 3) none)) = H2 at s2 ht2 hp2
    refine ⟨t, p2, _, _, rfl, rfl, ht2, hp2, by show 3 + _ ≤ sizeLine; have := cutV_length g.vs (some 3) none; have h5 : g.vs.length ≤ 5 := vs_len g; rw [sizeLine_eq]; omega, fun z => by (exact nomatch z), fun _ hy => ?_, fun _ hy p3 n3 => ?_⟩
    · cases g with
      | keep b' a' => exact q _ _ s2 ⟨t, rfl, ht2⟩
      | lf b' a' k' c' => exact nomatch hy
      | cr b' a' k' => exact nomatch hy
    · cases g with
      | keep b' a' => exact absurd rfl hy
      | lf b' a' k' c' => exact q _ _ (s2.trans (same_upd n3)) ⟨p3, rfl, .inl (.inl upd_same)⟩
      | cr b' a' k' => exact q _ _ (s2.trans (same_upd n3)) ⟨p3, rfl, .inl (.inl upd_same)⟩
theorem ok_befKeep {f fS : Addr} {fd fdS : FuncData} {k : Nat} (F : Fun K "before_keep" "before_keep" sBefKeep f fd) (GS : FnOk P w K mg base CX0 k fS fdS ["j", "wanted"] (spSigns K)) (kS : PySem.W.keepIn K (.ref fS) = true) (bS : Binds K fdS ["j", "wanted"] []) (gS : mg "signs_after" = some (.ref fS)) :
    FnOk P w K mg base CX0 (k + 1) f fd ["first", "second"] (spBefKeep K) := by
  refine F.ok scBefKeep (fun vs H Q E h => ?_) (fun cdv A outer s H vs Q E hr h => ?_)
  · obtain ⟨x, y, f, b, a, rfl, _⟩ := h
    rfl
  · obtain ⟨_, y, f, b, a, rfl, ⟨p, rfl, hT⟩, hk, hy, q⟩ := h
    refine ⟨_, pss_cons (ps_if (pt_cmpR op_eq (pe_ix ix_tup (pv 0) pe_int (fun _ _ => rfl)) pe_str (nomark _)) (pss_one (ps_ret (pv 0))) pss_nil)
      (pss_one (ps_ret (pe_op op_catA (pe_slice sl_tup (pv 0) po_none (po_some pe_int)) (pe_tup (pa_cons (pe_call GS hr (by rfl) gS kS bS .nil pass0 (pa_cons (pe_ix ix_tup (pv 0) pe_int (fun _ _ => rfl)) (pa_cons (pv 1) pa_nil))) pa_nil))))), ?_⟩
    refine ⟨_, rfl, p, _, 0, _, rfl, rfl, hT, atI_nat (j := 0) f.vs0, rfl, _, rfl, ?_⟩
    cases f with
    | keep b a => cases hk
    | lf b' a' k' c =>
      refine iteF ⟨_, rfl, 4, rfl, p, _, rfl, hT, (show ¬ (HT.sIx 5 0 none = 0 ∧ HT.sIx 5 5 (some 4) = 5) by decide), fun p2 n2 => ?_⟩
      have s1 : Same H (upd H p2 (.tup [.str "lf", .int b', .int a', .int k'])) := same_upd n2
      have hp2 : upd H p2 (.tup [.str "lf", .int b', .int a', .int k']) p2 = some (.tup [.str "lf", .int b', .int a', .int k']) := upd_same
      refine ⟨_, rfl, p, _, 4, _, rfl, rfl, sameT s1 hT, atI_nat (j := 4) rfl, _, rfl, _, _, _, rfl, hy.same s1, by show 1 ≤ sizeLine; decide, fun p3 n3 => ?_⟩
      have s2 := s1.trans (same_upd (o := .tup [.int ((Fm.keep b a).after c)]) n3)
      refine ⟨p2, p3, [.str "lf", .int b', .int a', .int k'], [.int ((Fm.keep b a).after c)], rfl, rfl, .inl (.inl (by rw [upd_ne (ne_of_none hp2 n3)]; exact hp2)), .inl (.inl upd_same), by show 5 ≤ sizeLine; decide, (fun z => by cases z), (fun _ z => by cases z), fun _ _ p4 n4 => ?_⟩
      exact q _ _ (s2.trans (same_upd n4)) ⟨p4, rfl, .inl (.inl upd_same)⟩
    | cr b' a' k' => exact iteT ⟨_, rfl, q _ _ (Same.refl H) ⟨p, rfl, hT⟩⟩
end
end Lw
namespace Lw
open PySem PySem.Spec L2 Lx
theorem scBoth : FnScope ["first", "second", "k"] ["first", "second"] (defScope sBoth) := ⟨rfl, rfl, rfl, by decide +kernel, rfl, by decide +kernel, by decide +kernel⟩
def spBoth (K : PySem.W.Frag) : Sp := fun vs H Q _ => ∃ x y f g n, vs = [x, y] ∧ FmAt K H x f ∧ FmAt K H y g ∧ f.Ok n ∧ g.Ok n ∧ n ≤ 100000 ∧ ∀ v H', Same H H' → FmAt K H' v (f.both g) → Q v H'
section
variable {P : Program} {w : World} {K : PySem.W.Frag} {mg : Str → Option Value} {base : Heap} {aL aN aS : Addr}
theorem ok_both {f fA fB fO : Addr} {fd fdA fdB fdO : FuncData} {k : Nat} (F : Fun K "form_of_both" "form_of_both" sBoth f fd)
    (GA : FnOk P w K mg base CX0 k fA fdA ["first", "second"] (spAftKeep K)) (kA : PySem.W.keepIn K (.ref fA) = true) (bA : Binds K fdA ["first", "second"] []) (gA : mg "after_keep" = some (.ref fA))
    (GB : FnOk P w K mg base CX0 k fB fdB ["first", "second"] (spBefKeep K)) (kB : PySem.W.keepIn K (.ref fB) = true) (bB : Binds K fdB ["first", "second"] []) (gB : mg "before_keep" = some (.ref fB))
    (GO : FnOk P w K mg base CX0 k fO fdO ["first", "second"] (spOne K)) (kO : PySem.W.keepIn K (.ref fO) = true) (bO : Binds K fdO ["first", "second"] []) (gO : mg "units_of_one" = some (.ref fO)) :
    FnOk P w K mg base CX0 (k + 1) f fd ["first", "second"] (spBoth K) := by
  refine F.ok scBoth (fun vs H Q E h => ?_) (fun cdv A outer s H vs Q E hr h => ?_)
  · obtain ⟨x, y, f, g, n, rfl, _⟩ := h
    rfl
  · obtain ⟨_, _, f, g, n, rfl, ⟨p, rfl, hT⟩, ⟨r, rfl, hG⟩, of, og, hn, q⟩ := h
    refine ⟨_, pss_cons (ps_if (pt_cmpR op_eq (pe_ix ix_tup (pv 0) pe_int (fun _ _ => rfl)) pe_str (nomark _)) (pss_one (ps_ret (pe_call GA hr (by rfl) gA kA bA .nil pass0 (pa_cons (pv 0) (pa_cons (pv 1) pa_nil))))) pss_nil)
      (pss_cons (ps_if (pt_cmpR op_eq (pe_ix ix_tup (pv 1) pe_int (fun _ _ => rfl)) pe_str (nomark _)) (pss_one (ps_ret (pe_call GB hr (by rfl) gB kB bB .nil pass0 (pa_cons (pv 0) (pa_cons (pv 1) pa_nil))))) pss_nil)
      (pss_cons (ps_set (i := 2) scBoth.nd rfl (.inl rfl) (pe_op op_mulW (pe_op op_mulW (pe_ix ix_tup (pv 0) pe_int (fun _ _ => rfl)) (pe_call GO hr (by rfl) gO kO bO .nil pass0 (pa_cons (pv 0) (pa_cons (pv 1) pa_nil)))) (pe_ix ix_tup (pv 1) pe_int (fun _ _ => rfl))))
      (pss_one (ps_ret (pe_op op_catA (pe_tup (pa_cons (pe_ix ix_tup (pv 1) pe_int (fun _ _ => rfl)) (pa_cons (pe_ix ix_tup (pv 0) pe_int (fun _ _ => rfl)) (pa_cons (pe_ix ix_tup (pv 0) pe_int (fun _ _ => rfl)) (pa_cons (pv 2) pa_nil))))) (pe_slice sl_tup (pv 1) (po_some pe_int) po_none)))))), ?_⟩
    refine ⟨_, rfl, p, _, 0, _, rfl, rfl, hT, atI_nat (j := 0) f.vs0, rfl, _, rfl, ?_⟩
    by_cases hf : Fm.isKeep f = true
    · cases f with
      | keep b a => exact iteT ⟨_, rfl, _, rfl, _, _, b, a, g, rfl, ⟨p, rfl, hT⟩, ⟨r, rfl, hG⟩, q⟩
      | _ => cases hf
    · have hf' : Fm.isKeep f = false := by simpa using hf
      have hnm : decide (V.str f.nm = V.str "keep") = false := by
        cases f with
        | keep b a => cases hf'
        | _ => rfl
      rw [hnm]
      refine iteF ⟨_, rfl, r, _, 0, _, rfl, rfl, hG, atI_nat (j := 0) g.vs0, rfl, _, rfl, ?_⟩
      by_cases hg : Fm.isKeep g = true
      · cases g with
        | keep b a => exact iteT ⟨_, rfl, _, rfl, _, _, f, b, a, rfl, ⟨p, rfl, hT⟩, hf', ⟨r, rfl, hG⟩, q⟩
        | _ => cases hg
      · have hg' : Fm.isKeep g = false := by simpa using hg
        have hnm : decide (V.str g.nm = V.str "keep") = false := by
          cases g with
          | keep b a => cases hg'
          | _ => rfl
        rw [hnm]
        obtain ⟨kf, ekf⟩ := nk_k hf'
        obtain ⟨kg, ekg⟩ := nk_k hg'
        refine iteF ⟨_, rfl, p, _, 3, _, rfl, rfl, hT, atI_nat (j := 3) ekf, _, rfl, _, rfl, _, _, f, g, rfl, ⟨p, rfl, hT⟩, hf', ⟨r, rfl, hG⟩, ?_⟩
        have b1 := one_ok hf' of og
        have bf := nk_ok hf' of ekf
        have bg := nk_ok hg' og ekg
        refine ⟨_, _, rfl, rfl, wide_mul bf.2 b1.2 (nk_pos hf' of) (by omega) (by omega), _, rfl, r, _, 3, _, rfl, rfl, hG, atI_nat (j := 3) ekg, _, _, rfl, rfl, wide_mul (bf.2.mul b1.2) bg.2 (by omega) (nk_pos hg' og) (by omega), ?_⟩
        refine ⟨_, rfl, r, _, 0, _, rfl, rfl, hG, atI_nat (j := 0) g.vs0, _, rfl, p, _, 1, _, rfl, rfl, hT, atI_nat (j := 1) f.vs1, _, rfl, p, _, 2, _, rfl, rfl, hT, atI_nat (j := 2) f.vs2, _, rfl, by show 4 ≤ sizeLine; decide, fun t nt => ?_⟩
        have s1 : Same H (upd H t (.tup [.str g.nm, .int f.b, .int f.a, .int (kf * Fm.one f g * kg)])) := same_upd nt
        have ht1 : upd H t (.tup [.str g.nm, .int f.b, .int f.a, .int (kf * Fm.one f g * kg)]) t = some (.tup [.str g.nm, .int f.b, .int f.a, .int (kf * Fm.one f g * kg)]) := upd_same
        show tSl _ _ _ _ _ (upd H t (.tup [.str g.nm, .int f.b, .int f.a, .int (kf * Fm.one f g * kg)])) _
        generalize upd H t (.tup [.str g.nm, .int f.b, .int f.a, .int (kf * Fm.one f g * kg)]) = H1 at s1 ht1
        refine ⟨_, rfl, 4, rfl, r, g.vs, rfl, sameT s1 hG, wh4 g, fun p2 n2 => ?_⟩
        have s2 := s1.trans (same_upd (o := .tup (cutV g.vs (some 4) none)) n2)
        have ht2 : SqT K (upd H1 p2 (.tup (cutV g.vs (some 4) none))) t [.str g.nm, .int f.b, .int f.a, .int (kf * Fm.one f g * kg)] := .inl (.inl (by rw [upd_ne (ne_of_none ht1 n2)]; exact ht1))
        have hp2 : SqT K (upd H1 p2 (.tup (cutV g.vs (some 4) none))) p2 (cutV g.vs (some 4) none) := .inl (.inl upd_same)
        generalize upd H1 p2 (.tup (cutV g.vs (some 4) none)) = H2 at s2 ht2 hp2
        refine ⟨t, p2, _, _, rfl, rfl, ht2, hp2, by show 4 + _ ≤ sizeLine; have := cutV_length g.vs (some 4) none; have h5 : g.vs.length ≤ 5 := vs_len g; rw [sizeLine_eq]; omega, (fun z => by cases z), fun _ hy => ?_, fun _ hy p3 n3 => ?_⟩
        · cases g with
          | keep b' a' => cases hg'
          | lf b' a' k' c' => exact nomatch hy
          | cr b' a' k' =>
            cases ekg
            cases f with
            | keep b a => cases hf'
            | lf b a k c => cases ekf; exact q _ _ s2 ⟨t, rfl, ht2⟩
            | cr b a k => cases ekf; exact q _ _ s2 ⟨t, rfl, ht2⟩
        · cases g with
          | keep b' a' => cases hg'
          | lf b' a' k' c' =>
            cases ekg
            cases f with
            | keep b a => cases hf'
            | lf b a k c => cases ekf; exact q _ _ (s2.trans (same_upd n3)) ⟨p3, rfl, .inl (.inl upd_same)⟩
            | cr b a k => cases ekf; exact q _ _ (s2.trans (same_upd n3)) ⟨p3, rfl, .inl (.inl upd_same)⟩
          | cr b' a' k' => exact absurd rfl hy
end
end Lw
namespace Lw
open PySem PySem.Spec L2 Lx
theorem scIdem : FnScope ["wanted"] ["wanted"] (defScope sIdem) := ⟨rfl, rfl, rfl, by decide +kernel, rfl, by decide +kernel, by decide +kernel⟩
def spIdem (K : PySem.W.Frag) : Sp := fun vs H Q _ => ∃ y f n, vs = [y] ∧ FmAt K H y f ∧ f.Ok n ∧ n ≤ 100000 ∧ ∀ H', Same H H' → Q (.bl (PyData.eqv (fdt (f.both f)) (fdt f))) H'
section
variable {P : Program} {w : World} {K : PySem.W.Frag} {mg : Str → Option Value} {base : Heap}
theorem ok_idem {f aF aB : Addr} {fd dF dB : FuncData} {k : Nat} (F : Fun K "is_idempotent" "is_idempotent" sIdem f fd)
    (cF : Cl P w K mg base k "check_form" ["wanted"] (spChkForm K) aF dF)
    (cB : Cl P w K mg base k "form_of_both" ["first", "second"] (spBoth K) aB dB) : FnOk P w K mg base CX0 (k + 1) f fd ["wanted"] (spIdem K) := by
  refine F.ok scIdem (fun vs H Q E h => ?_) (fun cdv A outer s H vs Q E hr h => ?_)
  · obtain ⟨y, f, n, rfl, _⟩ := h
    rfl
  · obtain ⟨y, f, n, rfl, hY, hf, hn, q⟩ := h
    refine ⟨_, (pss_cons (ps_expr (pe_call cF.G hr (by rfl) cF.g cF.kp cF.b .nil pass0 (pa_cons (pv 0) pa_nil)))
      (pss_one (ps_ret (pe_cmpR (op_eqD hr.units) (pe_call cB.G hr (by rfl) cB.g cB.kp cB.b .nil pass0 (pa_cons (pv 0) (pa_cons (pv 0) pa_nil))) (pv 0) (nomark _))))), ?_⟩
    refine ⟨_, rfl, y, f, n, rfl, hY, hf, fun H1 s1 => ?_⟩
    refine ⟨_, rfl, _, rfl, y, y, f, f, n, rfl, hY.same s1, hY.same s1, hf, hf, hn, fun v H2 s2 hv => ?_⟩
    exact ⟨_, rfl, fdt _, fdt _, fm_dp hv, fm_dp (hY.same (s1.trans s2)), fdt_shaped _, fdt_shaped _, q _ (s1.trans s2)⟩
end
end Lw
namespace Lw
open PySem PySem.Spec L2 Lx
theorem scUnd : FnScope ["wanted"] ["wanted"] (defScope sUndoing) := ⟨rfl, rfl, rfl, by decide +kernel, rfl, by decide +kernel, by decide +kernel⟩
def remN : Fm → V
  | .keep b a => if b = 0 then .str (rep "D" a.toNat) else .non
  | _ => .non
theorem remN_0 (a : Nat) : remN (.keep 0 (a : Int)) = .str (rep "D" a) := by
  show (if (0 : Int) = 0 then V.str (rep "D" (a : Int).toNat) else .non) = _
  rw [if_pos rfl, Int.toNat_natCast]
theorem remN_1 {b a : Int} (h : b ≠ 0) : remN (.keep b a) = .non := by
  show (if b = 0 then V.str (rep "D" a.toNat) else .non) = _
  rw [if_neg h]
def spUnd (K : PySem.W.Frag) : Sp := fun vs H Q _ => ∃ x f n, vs = [x] ∧ FmAt K H x f ∧ f.Ok n ∧ f.a ≤ 100000 ∧ ∀ H', Same H H' → Q (remN f) H'
section
variable {P : Program} {w : World} {K : PySem.W.Frag} {mg : Str → Option Value} {base : Heap}
theorem ok_und {f aF : Addr} {fd dF : FuncData} {k : Nat} (F : Fun K "undoing" "undoing" sUndoing f fd)
    (cF : Cl P w K mg base k "check_form" ["wanted"] (spChkForm K) aF dF) : FnOk P w K mg base CX0 (k + 1) f fd ["wanted"] (spUnd K) := by
  refine F.ok scUnd (fun vs H Q E h => ?_) (fun cdv A outer s H vs Q E hr h => ?_)
  · obtain ⟨x, f, n, rfl, _⟩ := h
    rfl
  · obtain ⟨_, f, n, rfl, ⟨p, rfl, hT⟩, ho, hl, q⟩ := h
    refine ⟨_, (pss_cons (ps_expr (pe_call cF.G hr (by rfl) cF.g cF.kp cF.b .nil pass0 (pa_cons (pv 0) pa_nil)))
      (pss_cons (ps_if (PW.pt (pw_and (pt_cmpR op_eq (pe_ix ix_tup (pv 0) pe_int (fun _ _ => rfl)) pe_str (nomark _)) (pw_and1 (pt_cmpR op_eq (pe_ix ix_tup (pv 0) pe_int (fun _ _ => rfl)) pe_int (nomark _)))))
          (pss_one (ps_ret (pe_op op_repS pe_str (pe_ix ix_tup (pv 0) pe_int (fun _ _ => rfl))))) pss_nil)
      (pss_one (ps_ret pe_non)))), ?_⟩
    refine ⟨_, rfl, _, f, n, rfl, ⟨p, rfl, hT⟩, ho, fun H1 s1 => ?_⟩
    have hT1 := sameT s1 hT
    have q1 := q _ s1
    refine ⟨_, rfl, p, _, 0, _, rfl, rfl, hT1, atI_nat (j := 0) f.vs0, rfl, _, rfl, ?_⟩
    cases f with
    | keep b a =>
      obtain ⟨a, rfl⟩ := Int.eq_ofNat_of_zero_le ho.2.1
      refine iteT ⟨_, rfl, p, _, 1, .int b, rfl, rfl, hT1, atI_nat (j := 1) rfl, rfl, _, rfl, ?_⟩
      by_cases hb : b = 0
      · subst hb
        rw [decide_eq_true rfl]
        have hl' : (a : Int) ≤ 100000 := hl
        refine iteT ⟨_, rfl, p, _, 2, .int a, rfl, rfl, hT1, atI_nat (j := 2) rfl, "D", a, rfl, rfl, by omega, by omega, by rw [Int.toNat_natCast, sizeLine_eq]; show 1 * a ≤ _; omega, ?_⟩
        rw [remN_0] at q1
        rw [Int.toNat_natCast]
        exact q1
      · rw [decide_eq_false (fun h => hb (V.int.inj h))]
        rw [remN_1 hb] at q1
        exact iteF q1
    | lf b a k' c => exact iteF (iteF q1)
    | cr b a k' => exact iteF (iteF q1)
end
end Lw
/-! e.value where an error is handled: the fragment said outright -/
namespace Lx
open PySem PySem.Spec L2
theorem pe_errXVK {X : Cx} {pos : Pos} {K : PySem.W.Frag} {e : Expr} {te : TE} (hK : X.K = K) (he : PE X e te) (hb : attributeBase e "value" X.env (eval e X.env) = eval e X.env := by rfl) : PE X (.Attribute e "value" pos) (tErrXV K te) := by
  subst hK
  exact pe_errXV he hb
theorem call_isXK {X : Cx} {K : PySem.W.Frag} (hK : X.K = K) : CallR X (.builtin "isinstance") (rIsX K) := by
  subst hK
  exact call_isX
end Lx
namespace Lw
open PySem PySem.Spec L2 Lx
def spChpE (C : Addr) : Sp := fun vs H Q E => ∃ p t : Int, vs = [.int p, .int t] ∧ (p < 0 ∨ t ≤ p) ∧ ∀ (H' : Hp) (d : Addr), Same H H' → H' d = some (.xd (vf (.int p))) → E (.ref C) (some d) H'
def spTraE (K : PySem.W.Frag) (C : Addr) : Sp := fun vs H Q E => ∃ x y l r f n place, vs = [x, y, .int place] ∧ RnAt K H x l r ∧ FmAt K H y f ∧ RnOk n r ∧ f.Ok n ∧ 0 < n ∧ n ≤ 2000 ∧ (place < 0 ∨ width f * units r f ≤ place) ∧ ∀ (H' : Hp) (d : Addr), Same H H' → H' d = some (.xd (vf (.int place))) → E (.ref C) (some d) H'
def spOffE (K : PySem.W.Frag) (C : Addr) : Sp := fun vs H Q E => ∃ x y l r f n place, vs = [x, y, .int place] ∧ RnAt K H x l r ∧ FmAt K H y f ∧ RnOk n r ∧ f.Ok n ∧ 0 < n ∧ n ≤ 2000 ∧ (place < 0 ∨ size1 r ≤ place) ∧ ∀ (H' : Hp) (d : Addr), Same H H' → H' d = some (.xd (vf (.int place))) → E (.ref C) (some d) H'
section
variable {P : Program} {w : World} {K : PySem.W.Frag} {mg : Str → Option Value} {base : Heap} {L C : Addr} {st : Stmt}
theorem ok_chpE {f : Addr} {fd : FuncData} {k : Nat} (TL : LineC K mg L) (T : ErrC K P.main.file mg L "InvalidPlace" "InvalidPlace.__init__" st C) (F : Fun K "check_place" "check_place" sCheckPlace f fd)
    (ht : (P.main.scope.names.lookup ("super" : Str)).isSome = false) (gs : mg "super" = none) : FnOk P w K mg base (L2.CX P w) (k + 3) f fd ["place", "total"] (spChpE C) := by
  refine F.okX scChp (fun vs H Q E h => ?_) (fun cdv A outer s H vs Q E hr h => ?_)
  · obtain ⟨p, t, rfl, _⟩ := h
    rfl
  · obtain ⟨p, t, rfl, hb, q⟩ := h
    have hr1 : Room 1 (A.deeper (PyProof.Rows.envOfC "check_place" (defScope sCheckPlace) s.heap.objs.size f cdv)) := hr.mono (by omega)
    refine ⟨_, pss_one (ps_if (PW.pt (pw_or (pt_cmpR op_lt (pv 0) pe_int (nomark _)) (pw_or1 (pt_cmpR op_ge (pv 0) (pv 1) (nomark _))))) (pss_one (ps_raise rfl (takes_of rfl rfl rfl rfl) (pmk_err TL T hr1 ht gs (by rfl) (pv 0)))) pss_nil), ?_⟩
    refine ⟨_, rfl, _, _, rfl, rfl, _, rfl, ?_⟩
    by_cases h0 : p < 0
    · rw [decide_eq_true h0]
      exact iteT ⟨_, rfl, fun d nd => q _ d (same_upd nd) upd_same⟩
    · rw [decide_eq_false h0]
      refine iteF ⟨_, rfl, _, rfl, _, _, rfl, rfl, _, rfl, ?_⟩
      rw [decide_eq_true (by omega : p ≥ t)]
      exact iteT ⟨_, rfl, fun d nd => q _ d (same_upd nd) upd_same⟩
theorem ok_traE {f aR aF aW aP aU : Addr} {fd dR dF dW dP dU : FuncData} {k : Nat} (F : Fun K "trace" "trace" sTrace f fd)
    (cR : Cl P w K mg base k "check_run" ["run"] (spChkRun K) aR dR)
    (cF : Cl P w K mg base k "check_form" ["wanted"] (spChkForm K) aF dF)
    (cW : Cl P w K mg base k "characters_of_unit" ["wanted"] (spWid K) aW dW)
    (GP : FnOk P w K mg base (L2.CX P w) k aP dP ["place", "total"] (spChpE C)) (bP : Binds K dP ["place", "total"] []) (gP : mg "check_place" = some (.ref aP)) (kP : PySem.W.keepIn K (.ref aP) = true)
    (cU : Cl P w K mg base k "units" ["run", "wanted"] (spUnits K) aU dU) : FnOk P w K mg base (L2.CX P w) (k + 1) f fd ["run", "wanted", "place"] (spTraE K C) := by
  refine F.okX scTra (fun vs H Q E h => ?_) (fun cdv A outer s H vs Q E hr h => ?_)
  · obtain ⟨x, y, l, r, f, n, place, rfl, _⟩ := h
    rfl
  · obtain ⟨x, y, l, r, f, n, place, rfl, hx, hy, ho, hf, hn0, hn, hb, q⟩ := h
    refine ⟨_, (pss_cons (ps_expr (pe_call cR.G hr (by rfl) cR.g cR.kp cR.b .nil pass0 (pa_cons (pv 0) pa_nil)))
      (pss_cons (ps_expr (pe_call cF.G hr (by rfl) cF.g cF.kp cF.b .nil pass0 (pa_cons (pv 1) pa_nil)))
      (pss_cons (ps_set (i := 3) scTra.nd rfl (.inl rfl) (pe_call cW.G hr (by rfl) cW.g cW.kp cW.b .nil pass0 (pa_cons (pv 1) pa_nil)))
      (pss_cons (ps_expr (pe_callS (E := WE fun cls d _ H => E cls d H) GP hr (by rfl) gP kP bP (fun σ => passAt (takes_of rfl rfl rfl rfl) σ) (pa_cons (pv 2) (pa_cons (pe_op op_mulW (pe_call cU.G hr (by rfl) cU.g cU.kp cU.b .nil pass0 (pa_cons (pv 0) (pa_cons (pv 1) pa_nil))) (pv 3)) pa_nil)))) pss_never)))), ?_⟩
    have hu := units_ok (RnOk.sm ho) hf
    have hw := width_sm hf hn0
    refine ⟨_, rfl, x, l, r, n, rfl, hx, ho, fun H1 s1 => ⟨_, rfl, y, f, n, rfl, hy.same s1, hf, fun H2 s2 => ?_⟩⟩
    have s12 := s1.trans s2
    refine ⟨_, rfl, y, f, n, rfl, hy.same s12, hf, hn0, by omega, ?_⟩
    refine ⟨_, rfl, _, rfl, _, rfl, x, l, r, y, f, n, rfl, hx.same s12, hy.same s12, RnOk.sm ho, hf, by omega, fun H3 s3 => ?_⟩
    refine ⟨_, rfl, _, _, rfl, rfl, wide_mul hu.2 hw (by omega) (by omega) (by omega), place, _, rfl, by rw [Int.mul_comm]; exact hb, fun H' d s hd => q H' d ((s12.trans s3).trans s) hd⟩
theorem ok_offE {f aN aR aF aP aU : Addr} {fd dR dF dP dU : FuncData} {k : Nat} (F : Fun K "offspring" "offspring" sOffspring f fd)
    (gN : mg "NOTHING" = some (.ref aN)) (tN : ∀ H : Hp, FmAt K H (.ref aN) nothing)
    (cR : Cl P w K mg base k "check_run" ["run"] (spChkRun K) aR dR)
    (cF : Cl P w K mg base k "check_form" ["wanted"] (spChkForm K) aF dF)
    (GP : FnOk P w K mg base (L2.CX P w) k aP dP ["place", "total"] (spChpE C)) (bP : Binds K dP ["place", "total"] []) (gP : mg "check_place" = some (.ref aP)) (kP : PySem.W.keepIn K (.ref aP) = true)
    (cU : Cl P w K mg base k "units" ["run", "wanted"] (spUnits K) aU dU) : FnOk P w K mg base (L2.CX P w) (k + 1) f fd ["run", "wanted", "place"] (spOffE K C) := by
  refine F.okX scOff (fun vs H Q E h => ?_) (fun cdv A outer s H vs Q E hr h => ?_)
  · obtain ⟨x, y, l, r, f, n, place, rfl, _⟩ := h
    rfl
  · obtain ⟨x, y, l, r, f, n, place, rfl, hx, hy, ho, hf, hn0, hn, hb, q⟩ := h
    refine ⟨_, (pss_cons (ps_expr (pe_call cR.G hr (by rfl) cR.g cR.kp cR.b .nil pass0 (pa_cons (pv 0) pa_nil)))
      (pss_cons (ps_expr (pe_call cF.G hr (by rfl) cF.g cF.kp cF.b .nil pass0 (pa_cons (pv 1) pa_nil)))
      (pss_cons (ps_expr (pe_callS (E := WE fun cls d _ H => E cls d H) GP hr (by rfl) gP kP bP (fun σ => passAt (takes_of rfl rfl rfl rfl) σ) (pa_cons (pv 2) (pa_cons (pe_call cU.G hr (by rfl) cU.g cU.kp cU.b .nil pass0 (pa_cons (pv 0) (pa_cons (pe_glob (v := .ref aN) rfl gN rfl) pa_nil))) pa_nil)))) pss_never))), ?_⟩
    refine ⟨_, rfl, x, l, r, n, rfl, hx, ho, fun H1 s1 => ⟨_, rfl, y, f, n, rfl, hy.same s1, hf, fun H2 s2 => ?_⟩⟩
    have s12 := s1.trans s2
    refine ⟨_, rfl, _, rfl, x, l, r, .ref aN, nothing, n, rfl, hx.same s12, tN _, RnOk.sm ho, nothing_okT n, by omega, fun H3 s3 => ?_⟩
    rw [size_nothing ho]
    exact ⟨place, _, rfl, hb, fun H' d s hd => q H' d ((s12.trans s3).trans s) hd⟩
end
end Lw
/-! a def that may be called while an error is handled -/
namespace Lx
open PySem PySem.Spec PyProof.Rows L2 L2H
/-- a def's promise, whatever is being handled; it lets nothing out -/
structure FnA (P : Program) (w : World) (K : PySem.W.Frag) (mg : Str → Option Value) (base : Heap) (k : Nat) (f : Addr) (fd : FuncData) (ps : List Str) (sp : Sp) : Prop where
  len : ∀ vs H Q E, sp vs H Q E → vs.length = ps.length
  run : ∀ (A : Around) (outer : List Env) (s : Shared) (H : Hp) (args : Args) (us : List Value) (vs : List V) (Q : VK) (E : XK), RoomH k A → Env0 P w K mg base A outer s H → BindsTo s fd args (ps.zip us) → Vals vs us → sp vs H Q E →
    codeAny (model P w) A (.call (.ref f) args) (CR CX0 outer P w H s Q E) s
theorem FnA.mono {P : Program} {w : World} {K : PySem.W.Frag} {mg : Str → Option Value} {base : Heap} {j k : Nat} {f : Addr} {fd : FuncData} {ps : List Str} {sp : Sp} (F : FnA P w K mg base j f fd ps sp) (h : j ≤ k) : FnA P w K mg base k f fd ps sp :=
  ⟨F.len, fun A outer s H args us vs Q E hr => F.run A outer s H args us vs Q E (hr.mono h)⟩
def cxA (P : Program) (w : World) (K : PySem.W.Frag) (mg : Str → Option Value) (base : Heap) (N : List Str) (qual : Str) (scope : Scope) (f : Addr) (cd : Value) (A : Around) (outer : List Env) (s : Shared) (H : Hp) (E : XK) : Cx :=
  { cxOf CX0 P w K mg base N qual scope f cd A outer s H E with calm := false }
theorem inv_startA {P : Program} {w : World} {K : PySem.W.Frag} {mg : Str → Option Value} {base : Heap} {N ps : List Str} {qual : Str} {scope : Scope} {f : Addr} {cd : Value} {A : Around} {outer : List Env} {s s1 : Shared} {H : Hp} {E : XK} {us : List Value} {vs : List V}
    (S : FnScope N ps scope) (e0 : Env0 P w K mg base A outer s H) (hl : vs.length = ps.length) (r : Vals vs us)
    (x : InCallC s s.heap.objs.size (bindL (envOfC qual scope s.heap.objs.size f cd).kindOf (ps.zip us) fun _ => none) (cellsFrom (s.heap.objs.size + 1) scope.names []) (bindC (envOfC qual scope s.heap.objs.size f cd).kindOf (ps.zip us) fun _ => none) s1) :
    Inv (cxA P w K mg base N qual scope f cd A outer s H E) [] (L2.start N vs) H s1 := by
  have hpl : ps.length ≤ N.length := by have := congrArg List.length S.pre; rw [List.length_take] at this; omega
  obtain ⟨h1, tk, rfl, hk⟩ := x.done
  have noA : ∀ b : Addr, b ∉ (cxA P w K mg base N qual scope f cd A outer s H E).ex := fun b z => absurd (show b ∈ ([] : List Addr) from z) (by simp)
  refine ⟨⟨e0.mod, S.kind, rfl, rfl, Nat.le_refl _, fun y z c h1 h2 => ?_, fun y hy => ?_, fun y c _ h => ?_, (fun z => Bool.noConfusion (show false = true from z)), Around.frames_deeper e0.frames, .inr ⟨rfl, rfl⟩, fun b z => absurd z (noA b), e0.bs, e0.bsz, fun b _ _ => noA b, fun b z => absurd z (noA b), e0.funs, e0.frf⟩,
    rfl, e0.bare, Un.kept hk, ⟨_, x.toInCall.ns, fun i y v h1 h2 h3 => ?_⟩, fun y c h => ⟨_, x.cell y c h⟩, e0.hok.fresh (Nat.le_refl _), fun y c h => ?_, fun q hq => ?_, e0.hok.kept hk, ?_⟩
  · exact name_of_addr x.apart (PySem.mem_of_lookup h1) (PySem.mem_of_lookup h2)
  · have hy : scope.names.lookup y = some .cell ∨ scope.names.lookup y = some .free := hy
    rcases hy with hy | hy
    · exact cell_has hy
    · exact absurd rfl (S.nofree _ (PySem.mem_of_lookup hy))
  · exact Nat.le_of_lt (x.above y c (PySem.mem_of_lookup h))
  · have hi : i < vs.length := by
      unfold L2.start at h2
      by_cases hi : i < vs.length
      · exact hi
      · rw [List.getElem?_append_right (by simpa using hi)] at h2
        rw [List.getElem?_replicate] at h2
        split at h2 <;> cases h2
    have ha : vs[i]? = some v := by
      unfold L2.start at h2
      rw [List.getElem?_append_left (by simpa using hi), List.getElem?_map] at h2
      cases e : vs[i]? with
      | none => rw [e] at h2; cases h2
      | some a => rw [e] at h2; cases h2; rfl
    obtain ⟨u, hu, rv⟩ := r.get ha
    have hp : ps[i]? = some y := by
      rw [← S.pre, List.getElem?_take_of_lt (by omega)]; exact h1
    have ndP : ps.Nodup := by rw [← S.pre]; exact S.nd.sublist (List.take_sublist _ _)
    refine ⟨u, rv, ?_⟩
    rcases S.par y (List.mem_of_getElem? hp) with k | k
    · exact .inl ⟨k, bindL_get ndP hp hu k⟩
    · obtain ⟨c, e⟩ := cell_has (n := s.heap.objs.size + 1) k
      refine .inr ⟨.inl k, c, e, ?_⟩
      have q := x.cell y c e
      rw [bindC_get ndP hp hu (by show scope.names.lookup y ≠ _; rw [k]; decide)] at q
      exact q
  · exact e0.hok.fresh (Nat.le_of_lt (x.above y c (PySem.mem_of_lookup h)))
  · exact absurd (show q ∈ ([] : List (Addr × Obj)) from hq) (by simp)
  · unfold L2.start
    show _ = N.length
    rw [List.length_append, List.length_map, List.length_replicate]
    omega
theorem okA {P : Program} {w : World} {K : PySem.W.Frag} {mg : Str → Option Value} {base : Heap} {x qual : Str} {st : Stmt} {f : Addr} {fd : FuncData} {N ps : List Str} {k : Nat} {sp : Sp} (F : Fun K x qual st f fd) (S : FnScope N ps (defScope st)) (len : ∀ vs H Q E, sp vs H Q E → vs.length = ps.length)
    (hbody : ∀ (cdv : Value) (A : Around) (outer : List Env) (s : Shared) (H : Hp) (vs : List V) (Q : VK) (E : XK), RoomH k (A.deeper (envOfC qual (defScope st) s.heap.objs.size f cdv)) → sp vs H Q E →
      ∃ t, PSs (cxA P w K mg base N qual (defScope st) f cdv A outer s H E).nox (defBody st) t ∧ t { nx := fun _ H' => Q .non H', rt := Q } (L2.start N vs) H) : FnA P w K mg base (k + 1) f fd ps sp := by
  obtain ⟨oc, od, kV, doc, pm, an, cdv, ct, osl, rfl, lk, hcd⟩ := F.ex
  refine ⟨len, fun A outer s H args us vs Q E hr e0 hb r hsp => ?_⟩
  have hl := len _ _ _ _ hsp
  have KX : K.In s.heap := e0.mod.kin.keeps fun b o e => (e0.bs b o e).1
  have lim : s.heap.NoLimit := e0.mod.nolimit.keeps fun b o e => (e0.bs b o e).1
  have hkind : ∀ y ∈ ps.zip us, (defScope st).names.lookup y.1 = some .local ∨ ((defScope st).names.lookup y.1 = some .cell ∧ ((cellsFrom (s.heap.objs.size + 1) (defScope st).names []).lookup y.1).isSome = true) := fun ⟨n, v⟩ hy => by
    rcases S.par n (List.of_mem_zip hy).1 with q | q
    · exact .inl q
    · exact .inr ⟨q, PySem.W.cellsFrom_some _ _ _ (.inl q)⟩
  refine codeAny_call_function hr.depth (KX _ _ lk) rfl S.co S.gen rfl (PySem.W.codeRec_of KX hcd) (hb _ _ _ _ ?_)
  refine wpAny_newFunctionEnv_cells S.kind hkind fun env he s1 x => ?_
  subst he
  refine ⟨lim.keeps x.toInCall.keep, codeAny_func ?_⟩
  obtain ⟨t, ht0, hq⟩ := hbody cdv A outer s H vs Q E (hr.deeper _) hsp
  have ht := ht0.nox
  have I : Inv (cxA P w K mg base N qual (defScope st) f cdv A outer s H E) [] (L2.start N vs) H s1 := inv_startA S e0 hl r x
  refine wpAny_mono (ht.run [] s1 (L2.start N vs) H _ I hq) (fun fl s' hs => ?_) fun e s' hs => hs
  have fin : ∀ {σ' : L2.St} {H' : Hp} {v : V} {u : Value}, Inv (cxA P w K mg base N qual (defScope st) f cdv A outer s H E) [] σ' H' s' → RelV v u → Q v H' → CE outer P w H s Q u s' :=
    fun {σ' H' v u} J rv q => ⟨v, H', J.os, J.bare, J.base, J.hok, rv, q⟩
  cases fl with
  | ret u =>
    obtain ⟨v, σ', H', J, rv, q⟩ := hs
    exact fin J rv q
  | next =>
    obtain ⟨σ', H', J, q⟩ := hs
    exact fin (v := V.non) (u := Value.none) J rfl q
  | brk =>
    obtain ⟨_, _, _, q⟩ := hs
    exact False.elim q
  | cont =>
    obtain ⟨_, _, _, q⟩ := hs
    exact False.elim q
section
variable {X : Cx} {k : Nat} {f : Addr} {fd : FuncData} {ps : List Str} {sp : Sp} {E : XK} {x : Str} {q pos : Pos} {e : Expr} {es : List Expr} {t : TA}
theorem run_fnA {pins : List (Addr × Obj)} {σ : L2.St} {H : Hp} {s : Shared} {Q : VK} {us : List Value} {vs : List V} (F : FnA X.prog X.w X.K X.mg X.base k f fd ps sp) (hr : RoomH k X.A) (hb : Binds X.K fd ps [])
    (I : Inv X pins σ H s) (r : Vals vs us) (h : sp vs H Q E) : wpAny (model X.prog X.w) X.A (call (.ref f) us) (EP X pins σ Q) X.xe s := by
  have hl : us.length = ps.length := by rw [← r.length]; exact F.len _ _ _ _ h
  have b := hb s us I.kIn (by rw [List.append_nil]; exact hl)
  rw [List.append_nil] at b
  refine wpAny_call (codeAny_mono (F.run X.A X.stack s H ⟨us, []⟩ us vs Q E hr I.env0 b r h) fun r s' hq => ?_)
  cases r with
  | error e => exact hq.elim
  | ok fl =>
    cases fl with
    | ret u => exact I.after hq
    | next => exact False.elim hq
    | brk => exact False.elim hq
    | cont => exact False.elim hq
def tCallA (sp : Sp) (E : XK) (t : TA) : TE := fun σ H Q => t σ H fun vs H1 => sp vs H1 Q E
theorem pe_callA (F : FnA X.prog X.w X.K X.mg X.base k f fd ps sp) (hr : RoomH k X.A) (hg : Gl X x) (hm : X.mg x = some (.ref f)) (hk : PySem.W.keepIn X.K (.ref f) = true) (hb : Binds X.K fd ps [])
    (ha : PA X (e :: es) t) (hdb : (x == ("__debug__" : Str)) = false := by decide) (he : starEach (e :: es) X.env = (false, eval e X.env) :: starEach es X.env := by rfl) (hpl : (backTo pos (starEach es X.env)).any (·.1) = false := by rfl) :
    PE X (.Call (.Name x q) (e :: es) [] pos) (tCallA sp E t) := by
  refine ⟨fun pins s σ H Q I h => ?_⟩
  refine wpAny_Call_Name_kw (ld_glob I hg hm ?_ hdb)
  refine PySem.W.callWith_K (h₀ := X.base) I.ok.mod.kin hk (thn (ha.run pos pins s σ H _ I h) fun us s1 ⟨vs, H1, I1, r, q⟩ => ⟨I1.kIn, ?_⟩) he hpl
  exact run_fnA F hr hb I1 r q
theorem roomH_suite {a : Addr} {pn : List (Addr × Obj)} (r : Room k X.A) : RoomH k (X.suite a pn).A := ⟨r.dp, r.un⟩
end
end Lx
namespace Lw
open PySem PySem.Spec L2 Lx
def Ws32 (z : Str) : Prop := z = "kept"
def spStaE (K : PySem.W.Frag) (C1 C2 : Addr) : Sp := fun vs H Q E => ∃ x l r t tp, vs = [x, .ref t] ∧ RnAt K H x l r ∧ SqT K H t (tpV tp) ∧ TpOk Ws32 tp ∧ RFe E H C1 C2 r tp
def spTrF (K : PySem.W.Frag) (C1 C2 : Addr) : Sp := fun vs H Q E => ∃ (x : V) (l : Addr) (r : List (Int × Int) × Int) (t : Addr) (tp : Tp) (p : Int), vs = [x, .ref t, .int p] ∧ RnAt K H x l r ∧ SqT K H t (tpV tp) ∧ TpOk Ws32 tp ∧ RFe E H C1 C2 r tp
def spIdE (K : PySem.W.Frag) (C2 : Addr) : Sp := fun vs H Q E => ∃ t tp, vs = [.ref t] ∧ SqT K H t (tpV tp) ∧ TpOk Ws32 tp ∧ isFB tp = false ∧ ∀ (H' : Hp) (d : Addr), Same H H' → H' d = some (.xd (vf .non)) → E (.ref C2) (some d) H'
section
variable {P : Program} {w : World} {K : PySem.W.Frag} {mg : Str → Option Value} {base : Heap} {C1 C2 : Addr}
theorem ok_staE {f aR aF : Addr} {fd dR dF : FuncData} {k : Nat} (F : Fun K "stays" "stays" sStays f fd)
    (GR : FnOk P w K mg base (L2.CX P w) k aR dR ["run"] (spChkRunE K C1)) (bR : Binds K dR ["run"] []) (gR : mg "check_run" = some (.ref aR)) (kR : PySem.W.keepIn K (.ref aR) = true)
    (GF : FnOk P w K mg base (L2.CX P w) k aF dF ["wanted"] (spCfE K Ws32 C2)) (bF : Binds K dF ["wanted"] []) (gF : mg "check_form" = some (.ref aF)) (kF : PySem.W.keepIn K (.ref aF) = true) : FnOk P w K mg base (L2.CX P w) (k + 1) f fd ["run", "wanted"] (spStaE K C1 C2) := by
  refine F.okX scStays (fun vs H Q E h => ?_) (fun cdv A outer s H vs Q E hr h => ?_)
  · obtain ⟨x, l, r, t, tp, rfl, _⟩ := h
    rfl
  · obtain ⟨x, l, r, t, tp, rfl, hx, ht, ho, he⟩ := h
    refine ⟨_, pss_cons (ps_expr (pe_callS (E := WE fun cls d _ H => E cls d H) GR hr (by rfl) gR kR bR (fun σ => passAt (takes_of rfl rfl rfl rfl) σ) (pa_cons (pv 0) pa_nil)))
      (pss_cons (ps_expr (pe_callS (E := WE fun cls d _ H => E cls d H) GF hr (by rfl) gF kF bF (fun σ => passAt (takes_of rfl rfl rfl rfl) σ) (pa_cons (pv 1) pa_nil))) pss_never), ?_⟩
    rcases he with ⟨v, hv, q⟩ | ⟨hv, hf, q⟩
    · exact ⟨_, rfl, x, l, r, rfl, hx, (fun z => by rw [hv] at z; cases z), fun v' hv' H' d s hd => by rw [hv] at hv'; cases hv'; exact q H' d s hd⟩
    · refine ⟨_, rfl, x, l, r, rfl, hx, fun _ H1 s1 => ?_, fun v' hv' => by rw [hv] at hv'; cases hv'⟩
      exact ⟨_, rfl, t, tp, rfl, sameT s1 ht, ho, (fun z => by rw [hf] at z; cases z), fun _ H' d s hd => q H' d (s1.trans s) hd⟩
theorem ok_trF {f aR aF : Addr} {fd dR dF : FuncData} {k : Nat} (F : Fun K "trace" "trace" sTrace f fd)
    (GR : FnOk P w K mg base (L2.CX P w) k aR dR ["run"] (spChkRunE K C1)) (bR : Binds K dR ["run"] []) (gR : mg "check_run" = some (.ref aR)) (kR : PySem.W.keepIn K (.ref aR) = true)
    (GF : FnOk P w K mg base (L2.CX P w) k aF dF ["wanted"] (spCfE K Ws32 C2)) (bF : Binds K dF ["wanted"] []) (gF : mg "check_form" = some (.ref aF)) (kF : PySem.W.keepIn K (.ref aF) = true) : FnOk P w K mg base (L2.CX P w) (k + 1) f fd ["run", "wanted", "place"] (spTrF K C1 C2) := by
  refine F.okX scTra (fun vs H Q E h => ?_) (fun cdv A outer s H vs Q E hr h => ?_)
  · obtain ⟨x, l, r, t, tp, p, rfl, _⟩ := h
    rfl
  · obtain ⟨x, l, r, t, tp, p, rfl, hx, ht, ho, he⟩ := h
    refine ⟨_, pss_cons (ps_expr (pe_callS (E := WE fun cls d _ H => E cls d H) GR hr (by rfl) gR kR bR (fun σ => passAt (takes_of rfl rfl rfl rfl) σ) (pa_cons (pv 0) pa_nil)))
      (pss_cons (ps_expr (pe_callS (E := WE fun cls d _ H => E cls d H) GF hr (by rfl) gF kF bF (fun σ => passAt (takes_of rfl rfl rfl rfl) σ) (pa_cons (pv 1) pa_nil))) pss_never), ?_⟩
    rcases he with ⟨v, hv, q⟩ | ⟨hv, hf, q⟩
    · exact ⟨_, rfl, x, l, r, rfl, hx, (fun z => by rw [hv] at z; cases z), fun v' hv' H' d s hd => by rw [hv] at hv'; cases hv'; exact q H' d s hd⟩
    · refine ⟨_, rfl, x, l, r, rfl, hx, fun _ H1 s1 => ?_, fun v' hv' => by rw [hv] at hv'; cases hv'⟩
      exact ⟨_, rfl, t, tp, rfl, sameT s1 ht, ho, (fun z => by rw [hf] at z; cases z), fun _ H' d s hd => q H' d (s1.trans s) hd⟩
theorem ok_ofF {f aR aF : Addr} {fd dR dF : FuncData} {k : Nat} (F : Fun K "offspring" "offspring" sOffspring f fd)
    (GR : FnOk P w K mg base (L2.CX P w) k aR dR ["run"] (spChkRunE K C1)) (bR : Binds K dR ["run"] []) (gR : mg "check_run" = some (.ref aR)) (kR : PySem.W.keepIn K (.ref aR) = true)
    (GF : FnOk P w K mg base (L2.CX P w) k aF dF ["wanted"] (spCfE K Ws32 C2)) (bF : Binds K dF ["wanted"] []) (gF : mg "check_form" = some (.ref aF)) (kF : PySem.W.keepIn K (.ref aF) = true) : FnOk P w K mg base (L2.CX P w) (k + 1) f fd ["run", "wanted", "place"] (spTrF K C1 C2) := by
  refine F.okX scOff (fun vs H Q E h => ?_) (fun cdv A outer s H vs Q E hr h => ?_)
  · obtain ⟨x, l, r, t, tp, p, rfl, _⟩ := h
    rfl
  · obtain ⟨x, l, r, t, tp, p, rfl, hx, ht, ho, he⟩ := h
    refine ⟨_, pss_cons (ps_expr (pe_callS (E := WE fun cls d _ H => E cls d H) GR hr (by rfl) gR kR bR (fun σ => passAt (takes_of rfl rfl rfl rfl) σ) (pa_cons (pv 0) pa_nil)))
      (pss_cons (ps_expr (pe_callS (E := WE fun cls d _ H => E cls d H) GF hr (by rfl) gF kF bF (fun σ => passAt (takes_of rfl rfl rfl rfl) σ) (pa_cons (pv 1) pa_nil))) pss_never), ?_⟩
    rcases he with ⟨v, hv, q⟩ | ⟨hv, hf, q⟩
    · exact ⟨_, rfl, x, l, r, rfl, hx, (fun z => by rw [hv] at z; cases z), fun v' hv' H' d s hd => by rw [hv] at hv'; cases hv'; exact q H' d s hd⟩
    · refine ⟨_, rfl, x, l, r, rfl, hx, fun _ H1 s1 => ?_, fun v' hv' => by rw [hv] at hv'; cases hv'⟩
      exact ⟨_, rfl, t, tp, rfl, sameT s1 ht, ho, (fun z => by rw [hf] at z; cases z), fun _ H' d s hd => q H' d (s1.trans s) hd⟩
theorem ok_idE {f aF : Addr} {fd dF : FuncData} {k : Nat} (F : Fun K "is_idempotent" "is_idempotent" sIdem f fd)
    (GF : FnOk P w K mg base (L2.CX P w) k aF dF ["wanted"] (spCfE K Ws32 C2)) (bF : Binds K dF ["wanted"] []) (gF : mg "check_form" = some (.ref aF)) (kF : PySem.W.keepIn K (.ref aF) = true) : FnOk P w K mg base (L2.CX P w) (k + 1) f fd ["wanted"] (spIdE K C2) := by
  refine F.okX scIdem (fun vs H Q E h => ?_) (fun cdv A outer s H vs Q E hr h => ?_)
  · obtain ⟨t, tp, rfl, _⟩ := h
    rfl
  · obtain ⟨t, tp, rfl, ht, ho, hf, q⟩ := h
    refine ⟨_, pss_cons (ps_expr (pe_callS (E := WE fun cls d _ H => E cls d H) GF hr (by rfl) gF kF bF (fun σ => passAt (takes_of rfl rfl rfl rfl) σ) (pa_cons (pv 0) pa_nil))) pss_never, ?_⟩
    exact ⟨_, rfl, t, tp, rfl, ht, ho, (fun z => by rw [hf] at z; cases z), fun _ => q⟩
theorem ok_unE {f aF : Addr} {fd dF : FuncData} {k : Nat} (F : Fun K "undoing" "undoing" sUndoing f fd)
    (GF : FnOk P w K mg base (L2.CX P w) k aF dF ["wanted"] (spCfE K Ws32 C2)) (bF : Binds K dF ["wanted"] []) (gF : mg "check_form" = some (.ref aF)) (kF : PySem.W.keepIn K (.ref aF) = true) : FnOk P w K mg base (L2.CX P w) (k + 1) f fd ["wanted"] (spIdE K C2) := by
  refine F.okX scUnd (fun vs H Q E h => ?_) (fun cdv A outer s H vs Q E hr h => ?_)
  · obtain ⟨t, tp, rfl, _⟩ := h
    rfl
  · obtain ⟨t, tp, rfl, ht, ho, hf, q⟩ := h
    refine ⟨_, pss_cons (ps_expr (pe_callS (E := WE fun cls d _ H => E cls d H) GF hr (by rfl) gF kF bF (fun σ => passAt (takes_of rfl rfl rfl rfl) σ) (pa_cons (pv 0) pa_nil))) pss_never, ?_⟩
    exact ⟨_, rfl, t, tp, rfl, ht, ho, (fun z => by rw [hf] at z; cases z), fun _ => q⟩
end
end Lw
namespace Lw
open PySem PySem.Spec L2 L2H Lx
theorem scKind : FnScope ["e", "flags", "others"] ["e"] (defScope sLKind) := ⟨rfl, rfl, rfl, by decide +kernel, rfl, by decide +kernel, by decide +kernel⟩
structure KdF (mg : Str → Option Value) : Prop where
  isi : mg "isinstance" = none
  ve : mg "ValueError" = none
def kn (i : Nat) : Str := if i = 1 then "run" else if i = 2 then "form" else "place"
def spKind (C : Nat → Addr) : Sp := fun vs H Q _ => ∃ (e d : Addr) (n : Nat) (v : V), vs = [.ref e] ∧ (n = 1 ∨ n = 2 ∨ n = 4) ∧ H e = some (errX e (C n) d) ∧ H d = some (.xd (vf v)) ∧ ∀ H', Same H H' → Q (.str (kn n)) H'
section
variable {P : Program} {w : World} {K : PySem.W.Frag} {mg : Str → Option Value} {base : Heap} {L : Addr} {C : Nat → Addr} {ini : Nat → Stmt}
theorem ok_kind {f : Addr} {fd : FuncData} {k : Nat} (T : ErrT K P.main.file mg L C ini) (F : Fun K "_law_kind" "_law_kind" sLKind f fd) (Z : KdF mg) : FnA P w K mg base (k + 1) f fd ["e"] (spKind C) := by
  refine okA F scKind (fun vs H Q E h => ?_) (fun cdv A outer s H vs Q E hr h => ?_)
  · obtain ⟨e, d, n, v, rfl, _⟩ := h
    rfl
  · obtain ⟨e, d, n, v, rfl, hn, he, hd, q⟩ := h
    refine ⟨_, (pss_cons (ps_set (i := 1) scKind.nd rfl (.inl rfl) (pe_lst (pa_cons (pe_callB call_isX (by rfl) Z.isi (by decide +kernel) (pa_cons (pv 0) (pa_cons (pe_glob (v := .ref (C 1)) rfl T.e1.gC rfl) pa_nil))) (pa_cons (pe_callB call_isX (by rfl) Z.isi (by decide +kernel) (pa_cons (pv 0) (pa_cons (pe_glob (v := .ref (C 2)) rfl T.e2.gC rfl) pa_nil))) (pa_cons (pe_callB call_isX (by rfl) Z.isi (by decide +kernel) (pa_cons (pv 0) (pa_cons (pe_glob (v := .ref (C 4)) rfl T.e4.gC rfl) pa_nil))) pa_nil)))))
      (pss_cons (ps_set (i := 2) scKind.nd rfl (.inl rfl) (pe_callB call_isXT (by rfl) Z.isi (by decide +kernel) (pa_cons (pv 0) (pa_cons (pe_tup (pa_cons (pe_glob (v := .ref (C 0)) rfl T.e0.gC rfl) (pa_cons (pe_glob (v := .ref (C 3)) rfl T.e3.gC rfl) (pa_cons (pe_glob (v := .ref (C 6)) rfl T.e6.gC rfl) (pa_cons (pe_glob (v := .ref (C 5)) rfl T.e5.gC rfl) (pa_cons (pe_glob (v := .ref (C 7)) rfl T.e7.gC rfl) pa_nil)))))) pa_nil))))
      (pss_cons (ps_if (PW.pt (pw_or (pt_cmpR op_ne (pe_bm PySem.F.plainAttrs_list PySem.F.slot_list_count PySem.F.type_list_count mt_countF (pv 1) (pa_cons pe_bl pa_nil)) pe_int (nomark _)) (pw_or (pt_val (pv 2)) (pw_or1 (pt_not (pt_val (pe_callB call_isX (by rfl) Z.isi (by decide +kernel) (pa_cons (pv 0) (pa_cons (pe_bltn (v := .ty "ValueError") (by rfl) Z.ve (by decide +kernel) rfl) pa_nil)))))))))
          (pss_one (ps_ret pe_str)) pss_nil)
      (pss_one (ps_ret (pe_ix ix_tup (pe_tup (pa_cons pe_str (pa_cons pe_str (pa_cons pe_str pa_nil)))) (pe_bm PySem.F.plainAttrs_list PySem.F.slot_list_index PySem.F.type_list_index mt_index (pv 1) (pa_cons pe_bl pa_nil)) (fun _ _ => rfl))))))), ?_⟩
    have hn8 : n < 8 := by omega
    have ex := T.ex hn8
    refine ⟨_, rfl, e, C n, d, v, .ref (C 1), .ref (C 1), _, rfl, he, hd, ClsV.own _, T.kit hn8 (by decide), ex, _, rfl, e, C n, d, v, .ref (C 2), .ref (C 2), _, rfl, he, hd, ClsV.own _, T.kit hn8 (by decide), ex, _, rfl, e, C n, d, v, .ref (C 4), .ref (C 4), _, rfl, he, hd, ClsV.own _, T.kit hn8 (by decide), ex, by show 3 ≤ sizeLine; decide, fun l2 n2 => ?_⟩
    have s2 := same_upd (o := .lst [.bl (decide (n = 1)), .bl (decide (n = 2)), .bl (decide (n = 4))]) n2
    have h2 : upd H l2 (.lst [.bl (decide (n = 1)), .bl (decide (n = 2)), .bl (decide (n = 4))]) l2 = _ := upd_same
    have he2 := s2 _ _ he
    have hd2 := s2 _ _ hd
    revert s2 h2 he2 hd2
    generalize upd H l2 _ = H2
    intro s2 h2 he2 hd2
    dsimp only [gName, tNext, tSeq]
    refine ⟨_, rfl, by show 5 ≤ sizeLine; decide, fun tp ntp => ?_⟩
    have s3 := s2.trans (same_upd (o := .tup [.ref (C 0), .ref (C 3), .ref (C 6), .ref (C 5), .ref (C 7)]) ntp)
    have st := same_upd (o := .tup [.ref (C 0), .ref (C 3), .ref (C 6), .ref (C 5), .ref (C 7)]) ntp
    refine ⟨e, C n, d, v, tp, _, _, false, rfl, st _ _ he2, st _ _ hd2, upd_same, pairedR [0, 3, 6, 5, 7], T.kitNone hn8 [0, 3, 6, 5, 7] (fun j hj => ?_), ex, ?_⟩
    · simp only [List.mem_cons, List.not_mem_nil, or_false] at hj
      omega
    have he3 := st _ _ he2
    have hd3 := st _ _ hd2
    have h3 := st _ _ h2
    revert s3 he3 hd3 h3
    generalize upd H2 tp _ = H3
    intro s3 he3 hd3 h3
    dsimp only [gName, tNext, tSeq]
    rcases hn with rfl | rfl | rfl
    · refine ⟨_, rfl, .inl ⟨rfl, _, .inl (.inl h3)⟩, l2, _, .bl true, rfl, rfl, .inl (.inl h3), rfl, rfl, rfl, _, rfl, iteF ?_⟩
      refine ⟨_, rfl, false, rfl, iteF ?_⟩
      refine ⟨_, rfl, e, C 1, d, v, .ty "ValueError", .type "ValueError", true, rfl, he3, hd3, .ty _, T.kitV hn8, ex, true, rfl, iteF ?_⟩
      refine ⟨by show 3 ≤ sizeLine; decide, fun l4 n4 => ?_⟩
      have s4 := same_upd (o := .tup [.str "run", .str "form", .str "place"]) n4
      refine ⟨_, rfl, .inl ⟨rfl, _, .inl (.inl (s4 _ _ h3))⟩, l2, _, .bl true, 0, .bl true, rfl, rfl, .inl (.inl (s4 _ _ h3)), rfl, rfl, rfl, rfl, ?_, l4, _, ((0 : Nat) : Int), _, rfl, rfl, .inl (.inl upd_same), rfl, q _ (s3.trans s4)⟩
      rintro m z' hm hz'
      exact absurd hm (Nat.not_lt_zero _)
    · refine ⟨_, rfl, .inl ⟨rfl, _, .inl (.inl h3)⟩, l2, _, .bl true, rfl, rfl, .inl (.inl h3), rfl, rfl, rfl, _, rfl, iteF ?_⟩
      refine ⟨_, rfl, false, rfl, iteF ?_⟩
      refine ⟨_, rfl, e, C 2, d, v, .ty "ValueError", .type "ValueError", true, rfl, he3, hd3, .ty _, T.kitV hn8, ex, true, rfl, iteF ?_⟩
      refine ⟨by show 3 ≤ sizeLine; decide, fun l4 n4 => ?_⟩
      have s4 := same_upd (o := .tup [.str "run", .str "form", .str "place"]) n4
      refine ⟨_, rfl, .inl ⟨rfl, _, .inl (.inl (s4 _ _ h3))⟩, l2, _, .bl true, 1, .bl true, rfl, rfl, .inl (.inl (s4 _ _ h3)), rfl, rfl, rfl, rfl, ?_, l4, _, ((1 : Nat) : Int), _, rfl, rfl, .inl (.inl upd_same), rfl, q _ (s3.trans s4)⟩
      rintro m z' hm hz'
      match m, hm with
      | 0, _ => cases hz'; rfl
      | m + 1, hm => exact absurd hm (by omega)
    · refine ⟨_, rfl, .inl ⟨rfl, _, .inl (.inl h3)⟩, l2, _, .bl true, rfl, rfl, .inl (.inl h3), rfl, rfl, rfl, _, rfl, iteF ?_⟩
      refine ⟨_, rfl, false, rfl, iteF ?_⟩
      refine ⟨_, rfl, e, C 4, d, v, .ty "ValueError", .type "ValueError", true, rfl, he3, hd3, .ty _, T.kitV hn8, ex, true, rfl, iteF ?_⟩
      refine ⟨by show 3 ≤ sizeLine; decide, fun l4 n4 => ?_⟩
      have s4 := same_upd (o := .tup [.str "run", .str "form", .str "place"]) n4
      refine ⟨_, rfl, .inl ⟨rfl, _, .inl (.inl (s4 _ _ h3))⟩, l2, _, .bl true, 2, .bl true, rfl, rfl, .inl (.inl (s4 _ _ h3)), rfl, rfl, rfl, rfl, ?_, l4, _, ((2 : Nat) : Int), _, rfl, rfl, .inl (.inl upd_same), rfl, q _ (s3.trans s4)⟩
      rintro m z' hm hz'
      match m, hm with
      | 0, _ => cases hz'; rfl
      | 1, _ => cases hz'; rfl
      | m + 2, hm => exact absurd hm (by omega)
end
end Lw
namespace Lw
open PySem PySem.Spec L2 L2H Lx
theorem scCa : FnScope ["which", "run_now", "shape", "place", "e"] ["which", "run_now", "shape", "place"] (defScope sLCaught) := ⟨rfl, rfl, rfl, by decide +kernel, rfl, by decide +kernel, by decide +kernel⟩
def tpF : Tp → Fm
  | some (_, [b, a]) => .keep b a
  | some (_, [b, a, k]) => .cr b a k
  | some (_, [b, a, k, c]) => .lf b a k c
  | _ => nothing
theorem tpF_of {tp : Tp} {f : Fm} (h : isFB tp = true) (hn : ∀ wd ns, tp = some (wd, ns) → ns = f.nums) : tpF tp = f := by
  cases tp with
  | none => cases h
  | some wn =>
    obtain ⟨wd, ns⟩ := wn
    have e := hn wd ns rfl
    subst e
    cases f <;> rfl
def bnd (wh : Int) (r : List (Int × Int) × Int) (f : Fm) : Int := if wh = 1 then width f * units r f else size1 r
def outc (wh : Int) (r : List (Int × Int) × Int) (tp : Tp) (p : Int) : Option (Nat × V) :=
  if wh < 3 then
    match faultR r with
    | some v => some (1, v)
    | none => if isFB tp = true then (if wh = 0 then none else if p < 0 ∨ bnd wh r (tpF tp) ≤ p then some (4, .int p) else none) else some (2, .non)
  else if isFB tp = true then none else some (2, .non)
/-- numbers that are not too great -/
structure Bd32 (r : List (Int × Int) × Int) (tp : Tp) : Prop where
  g : ∀ x ∈ r.1, Sm 111 x.1 ∧ Sm 111 x.2
  rest : Sm 111 r.2
  len : r.1.length ≤ 1000
  f : ∀ wd ns, tp = some (wd, ns) → ∀ x ∈ ns, Sm 111 x ∧ x ≤ 100000
def spCa (K : PySem.W.Frag) : Sp := fun vs H Q _ => ∃ (wh : Int) (x : V) (l t : Addr) (r : List (Int × Int) × Int) (tp : Tp) (p : Int), vs = [.int wh, x, .ref t, .int p] ∧ 0 ≤ wh ∧ wh ≤ 4 ∧ RnS K H x l r ∧ H t = some (.tup (tpV tp)) ∧ TpOk Ws32 tp ∧ Bd32 r tp ∧
  (outc wh r tp p = none → ∀ H', Same H H' → Q .non H') ∧ ∀ c v, outc wh r tp p = some (c, v) → ∀ (H' : Hp) (q : Addr), Same H H' → H' q = some (.tup [.str (kn c), v]) → Q (.ref q) H'
section
variable {P : Program} {w : World} {K : PySem.W.Frag} {mg : Str → Option Value} {base : Heap} {L : Addr} {C : Nat → Addr} {ini : Nat → Stmt}
theorem ok_ca {f aK aS aT aO aI aU : Addr} {fd dK dS dT dO dI dU : FuncData} {k : Nat} (T : ErrT K P.main.file mg L C ini) (F : Fun K "_law_caught" "_law_caught" sLCaught f fd)
    (GK : FnA P w K mg base k aK dK ["e"] (spKind C)) (bK : Binds K dK ["e"] []) (gK : mg "_law_kind" = some (.ref aK)) (kK : PySem.W.keepIn K (.ref aK) = true)
    (GS : FnOk P w K mg base (L2.CX P w) k aS dS ["run", "wanted"] (fun vs H Q E => spStays K vs H Q E ∨ spStaE K (C 1) (C 2) vs H Q E)) (bS : Binds K dS ["run", "wanted"] []) (gS : mg "stays" = some (.ref aS)) (kS : PySem.W.keepIn K (.ref aS) = true)
    (GT : FnOk P w K mg base (L2.CX P w) k aT dT ["run", "wanted", "place"] (fun vs H Q E => spTra K vs H Q E ∨ (spTraE K (C 4) vs H Q E ∨ spTrF K (C 1) (C 2) vs H Q E))) (bT : Binds K dT ["run", "wanted", "place"] []) (gT : mg "trace" = some (.ref aT)) (kT : PySem.W.keepIn K (.ref aT) = true)
    (GO : FnOk P w K mg base (L2.CX P w) k aO dO ["run", "wanted", "place"] (fun vs H Q E => spOff K vs H Q E ∨ (spOffE K (C 4) vs H Q E ∨ spTrF K (C 1) (C 2) vs H Q E))) (bO : Binds K dO ["run", "wanted", "place"] []) (gO : mg "offspring" = some (.ref aO)) (kO : PySem.W.keepIn K (.ref aO) = true)
    (GI : FnOk P w K mg base (L2.CX P w) k aI dI ["wanted"] (fun vs H Q E => spIdem K vs H Q E ∨ spIdE K (C 2) vs H Q E)) (bI : Binds K dI ["wanted"] []) (gI : mg "is_idempotent" = some (.ref aI)) (kI : PySem.W.keepIn K (.ref aI) = true)
    (GU : FnOk P w K mg base (L2.CX P w) k aU dU ["wanted"] (fun vs H Q E => spUnd K vs H Q E ∨ spIdE K (C 2) vs H Q E)) (bU : Binds K dU ["wanted"] []) (gU : mg "undoing" = some (.ref aU)) (kU : PySem.W.keepIn K (.ref aU) = true) :
    FnOk P w K mg base CX0 (k + 1) f fd ["which", "run_now", "shape", "place"] (spCa K) := by
  refine F.ok scCa (fun vs H Q E h => ?_) (fun cdv A outer s H vs Q E hr h => ?_)
  · obtain ⟨wh, x, l, t, r, tp, p, rfl, _⟩ := h
    rfl
  · obtain ⟨wh, x, l, t, r, tp, p, rfl, w0, w4, hx, ht, hok, hbd, qn, qs⟩ := h
    refine ⟨_, pss_cons (ps_try_keep (i := 4) rfl rfl rfl scCa.nd rfl rfl ⟨rfl, by decide, .inl T.line.gL⟩
          (fun W pn xe tk hp => pss_one (ps_if (pt_cmpR op_eq (pv 0) pe_int (nomark _))
            (pss_one (ps_expr (pe_callS (E := WE W) GS hr (by rfl) gS kS bS (fun σ => passAt tk σ) (pa_cons (pv 1) (pa_cons (pv 2) pa_nil)))))
            (pss_one (ps_if (pt_cmpR op_eq (pv 0) pe_int (nomark _))
              (pss_one (ps_expr (pe_callS (E := WE W) GT hr (by rfl) gT kT bT (fun σ => passAt tk σ) (pa_cons (pv 1) (pa_cons (pv 2) (pa_cons (pv 3) pa_nil))))))
              (pss_one (ps_if (pt_cmpR op_eq (pv 0) pe_int (nomark _))
                (pss_one (ps_expr (pe_callS (E := WE W) GO hr (by rfl) gO kO bO (fun σ => passAt tk σ) (pa_cons (pv 1) (pa_cons (pv 2) (pa_cons (pv 3) pa_nil))))))
                (pss_one (ps_if (pt_cmpR op_eq (pv 0) pe_int (nomark _))
                  (pss_one (ps_expr (pe_callS (E := WE W) GI hr (by rfl) gI kI bI (fun σ => passAt tk σ) (pa_cons (pv 2) pa_nil))))
                  (pss_one (ps_expr (pe_callS (E := WE W) GU hr (by rfl) gU kU bU (fun σ => passAt tk σ) (pa_cons (pv 2) pa_nil))))))))))))
          (fun a pn => pss_one (ps_ret (pe_tup (pa_cons (pe_callA (E := E0) GK (roomH_suite hr) (by rfl) gK kK bK (pa_cons (pv 4) pa_nil)) (pa_cons (pe_errXVK (K := K) rfl (pv 4)) pa_nil))))))
      (pss_one (ps_ret pe_non)), ?_⟩
    have hT : SqT K H t (tpV tp) := .inl (.inl ht)
    -- the errors' way
    have err : ∀ (n : Nat) (v : V), (n = 1 ∨ n = 2 ∨ n = 4) → outc wh r tp p = some (n, v) → ∀ (D : Ends) (H1 : Hp) (d : Addr), D.rt = Q → Same H H1 → H1 d = some (.xd (vf v)) → ∀ (y4 : Option V), wKp K (.ref L) 4 (tRet (tTup (tCons (tCallA (spKind C) E0 (tCons (tVar 4) tNil)) (tCons (tErrXV K (tVar 4)) tNil)))) D (.ref (C n)) (some d) [some (.int wh), some x, some (.ref t), some (.int p), y4] H1 := fun n v hn ho D H1 d hD s1 hd y4 => by
      refine ⟨C n, d, rfl, rfl, T.exm (by omega), fun a ha => ?_⟩
      have s2 := s1.trans (same_upd (o := errX a (C n) d) ha)
      have hd2 : upd H1 a (errX a (C n) d) d = some (.xd (vf v)) := by rw [upd_ne (ne_of_none hd ha)]; exact hd
      have he2 : upd H1 a (errX a (C n) d) a = _ := upd_same
      generalize upd H1 a (errX a (C n) d) = H2 at s2 hd2 he2
      refine ⟨_, rfl, a, d, n, v, rfl, hn, he2, hd2, fun H3 s3 => ?_⟩
      refine ⟨_, rfl, a, C n, d, v, rfl, s3 _ _ he2, s3 _ _ hd2, T.ex (by omega), by show 2 ≤ sizeLine; decide, fun q nq => ?_⟩
      show D.rt _ _
      rw [hD]
      exact qs n v ho _ q ((s2.trans s3).trans (same_upd nq)) upd_same
    have rf : wh < 3 → ∀ (D : Ends) (y4 : Option V), D.rt = Q → (∀ v, faultR r = some v → RFe (fun cls d H => wKp K (.ref L) 4 (tRet (tTup (tCons (tCallA (spKind C) E0 (tCons (tVar 4) tNil)) (tCons (tErrXV K (tVar 4)) tNil)))) D cls d [some (.int wh), some x, some (.ref t), some (.int p), y4] H) H (C 1) (C 2) r tp) ∧
        (faultR r = none → isFB tp = false → RFe (fun cls d H => wKp K (.ref L) 4 (tRet (tTup (tCons (tCallA (spKind C) E0 (tCons (tVar 4) tNil)) (tCons (tErrXV K (tVar 4)) tNil)))) D cls d [some (.int wh), some x, some (.ref t), some (.int p), y4] H) H (C 1) (C 2) r tp) := fun h3 D y4 hD => by
      refine ⟨fun v hv => .inl ⟨v, hv, fun H' d s hd => err 1 v (.inl rfl) (by unfold outc; rw [if_pos h3, hv]) D H' d hD s hd y4⟩, fun hv hF => .inr ⟨hv, hF, fun H' d s hd => err 2 .non (.inr (.inl rfl)) (by unfold outc; rw [if_pos h3, hv, hF]; rfl) D H' d hD s hd y4⟩⟩
    have idf : ¬ wh < 3 → isFB tp = false → ∀ (D : Ends) (y4 : Option V), D.rt = Q → ∀ (H' : Hp) (d : Addr), Same H H' → H' d = some (.xd (vf .non)) → wKp K (.ref L) 4 (tRet (tTup (tCons (tCallA (spKind C) E0 (tCons (tVar 4) tNil)) (tCons (tErrXV K (tVar 4)) tNil)))) D (.ref (C 2)) (some d) [some (.int wh), some x, some (.ref t), some (.int p), y4] H' := fun h3 hF D y4 hD H' d s hd =>
      err 2 .non (.inr (.inl rfl)) (by unfold outc; rw [if_neg h3, hF]; rfl) D H' d hD s hd y4
    have hvalid : isFB tp = true → ∃ f : Fm, tpF tp = f ∧ FmAt K H (.ref t) f ∧ f.Ok 111 ∧ f.a ≤ 100000 := fun hF => by
      obtain ⟨f, e1, e2, e3⟩ := form_valid (n := 111) hF fun wd ns e x hx => (hbd.f wd ns e x hx).1
      refine ⟨f, tpF_of hF e3, ⟨t, rfl, by rw [← e1]; exact hT⟩, e2, ?_⟩
      cases tp with
      | none => cases hF
      | some wn =>
        obtain ⟨wd, ns⟩ := wn
        have e := e3 wd ns rfl
        subst e
        have hb := hbd.f wd f.nums rfl
        cases f with
        | keep b a => exact (hb a (by simp [Fm.nums])).2
        | lf b a k c => exact (hb a (by simp [Fm.nums])).2
        | cr b a k => exact (hb a (by simp [Fm.nums])).2
    have hrv : faultR r = none → RnOk 111 r := fun h => run_valid h hbd.g hbd.rest hbd.len
    have hcase : wh = 0 ∨ wh = 1 ∨ wh = 2 ∨ wh = 3 ∨ wh = 4 := by omega
    rcases hcase with rfl | rfl | rfl | rfl | rfl
    · refine ⟨_, rfl, rfl, _, rfl, iteT ?_⟩
      refine ⟨_, rfl, _, rfl, ?_⟩
      cases hv : faultR r with
      | some v => exact .inr ⟨x, l, r, t, tp, rfl, hx.rn, hT, hok, (rf (by decide) _ _ rfl).1 v hv⟩
      | none =>
        cases hF : isFB tp with
        | false => exact .inr ⟨x, l, r, t, tp, rfl, hx.rn, hT, hok, (rf (by decide) _ _ rfl).2 hv hF⟩
        | true =>
          obtain ⟨f, e1, e2, e3, e4⟩ := hvalid hF
          refine .inl ⟨x, l, r, .ref t, f, 111, rfl, hx.rn, e2, hrv hv, e3, by decide, by decide, hx.dq, fun H' s => qn ?_ H' s⟩
          unfold outc
          rw [if_pos (by decide), hv, hF]
          rfl
    · refine ⟨_, rfl, rfl, _, rfl, iteF ⟨_, rfl, rfl, _, rfl, iteT ?_⟩⟩
      refine ⟨_, rfl, _, rfl, _, rfl, ?_⟩
      cases hv : faultR r with
      | some v => exact .inr (.inr ⟨x, l, r, t, tp, p, rfl, hx.rn, hT, hok, (rf (by decide) _ _ rfl).1 v hv⟩)
      | none =>
        cases hF : isFB tp with
        | false => exact .inr (.inr ⟨x, l, r, t, tp, p, rfl, hx.rn, hT, hok, (rf (by decide) _ _ rfl).2 hv hF⟩)
        | true =>
          obtain ⟨f, e1, e2, e3, e4⟩ := hvalid hF
          have ho : outc 1 r tp p = if p < 0 ∨ width f * units r f ≤ p then some (4, .int p) else none := by
            unfold outc
            rw [if_pos (by decide), hv, hF, e1]
            rfl
          by_cases hp : p < 0 ∨ width f * units r f ≤ p
          · rw [if_pos hp] at ho
            exact .inr (.inl ⟨x, .ref t, l, r, f, 111, p, rfl, hx.rn, e2, hrv hv, e3, by decide, by decide, hp, fun H' d s hd => err 4 (.int p) (.inr (.inr rfl)) ho _ H' d rfl s hd _⟩)
          · rw [if_neg hp] at ho
            exact .inl ⟨x, .ref t, l, r, f, 111, p, rfl, hx.rn, e2, hrv hv, e3, by decide, by decide, by omega, by omega, fun H' p' s _ _ _ _ => qn ho H' s⟩
    · refine ⟨_, rfl, rfl, _, rfl, iteF ⟨_, rfl, rfl, _, rfl, iteF ⟨_, rfl, rfl, _, rfl, iteT ?_⟩⟩⟩
      refine ⟨_, rfl, _, rfl, _, rfl, ?_⟩
      cases hv : faultR r with
      | some v => exact .inr (.inr ⟨x, l, r, t, tp, p, rfl, hx.rn, hT, hok, (rf (by decide) _ _ rfl).1 v hv⟩)
      | none =>
        cases hF : isFB tp with
        | false => exact .inr (.inr ⟨x, l, r, t, tp, p, rfl, hx.rn, hT, hok, (rf (by decide) _ _ rfl).2 hv hF⟩)
        | true =>
          obtain ⟨f, e1, e2, e3, e4⟩ := hvalid hF
          have ho : outc 2 r tp p = if p < 0 ∨ size1 r ≤ p then some (4, .int p) else none := by
            unfold outc
            rw [if_pos (by decide), hv, hF]
            rfl
          by_cases hp : p < 0 ∨ size1 r ≤ p
          · rw [if_pos hp] at ho
            exact .inr (.inl ⟨x, .ref t, l, r, f, 111, p, rfl, hx.rn, e2, hrv hv, e3, by decide, by decide, hp, fun H' d s hd => err 4 (.int p) (.inr (.inr rfl)) ho _ H' d rfl s hd _⟩)
          · rw [if_neg hp] at ho
            exact .inl ⟨x, .ref t, l, r, f, 111, p, rfl, hx.rn, e2, hrv hv, e3, by decide, by decide, by omega, by omega, fun _ H' s => qn ho H' s, fun _ H' t s _ _ => qn ho H' s⟩
    · refine ⟨_, rfl, rfl, _, rfl, iteF ⟨_, rfl, rfl, _, rfl, iteF ⟨_, rfl, rfl, _, rfl, iteF ⟨_, rfl, rfl, _, rfl, iteT ?_⟩⟩⟩⟩
      refine ⟨_, rfl, ?_⟩
      cases hF : isFB tp with
      | false => exact .inr ⟨t, tp, rfl, hT, hok, hF, idf (by decide) hF _ _ rfl⟩
      | true =>
        obtain ⟨f, e1, e2, e3, e4⟩ := hvalid hF
        exact .inl ⟨.ref t, f, 111, rfl, e2, e3, by decide, fun H' s => qn (by unfold outc; rw [if_neg (by decide), hF]; rfl) H' s⟩
    · refine ⟨_, rfl, rfl, _, rfl, iteF ⟨_, rfl, rfl, _, rfl, iteF ⟨_, rfl, rfl, _, rfl, iteF ⟨_, rfl, rfl, _, rfl, iteF ?_⟩⟩⟩⟩
      refine ⟨_, rfl, ?_⟩
      cases hF : isFB tp with
      | false => exact .inr ⟨t, tp, rfl, hT, hok, hF, idf (by decide) hF _ _ rfl⟩
      | true =>
        obtain ⟨f, e1, e2, e3, e4⟩ := hvalid hF
        exact .inl ⟨.ref t, f, 111, rfl, e2, e3, e4, fun H' s => qn (by unfold outc; rw [if_neg (by decide), hF]; rfl) H' s⟩
end
end Lw
namespace Lw
open PySem PySem.Spec L2 Lx
theorem scBag : FnScope ["script", "blend", "great", "cell"] ["script"] (defScope sLBag) := ⟨rfl, rfl, rfl, by decide +kernel, rfl, by decide +kernel, by decide +kernel⟩
theorem scDraw : FnScope ["bag", "many", "drawn", "turn", "mixed"] ["bag", "many"] (defScope sLDraw) := ⟨rfl, rfl, rfl, by decide +kernel, rfl, by decide +kernel, by decide +kernel⟩
def spBag (K : PySem.W.Frag) : Sp := fun vs H Q _ => ∃ (a : Addr) (ns : List Int), vs = [.ref a] ∧ SqL K H a (ns.map V.int) ∧ ns.length ≤ 63 ∧ ∀ H' r gl, Same H H' → H r = none → H gl = none → BagAt H' r gl 0 → Q (.ref r) H'
def spDraw : Sp := fun vs H Q _ => ∃ (r gl : Addr) (n : Nat) (m : Int), vs = [.ref r, .int m] ∧ BagAt H r gl n ∧ n < 1000000000 ∧ 0 < m ∧ m.natAbs < 2 ^ 4000 ∧ ∀ v H', 0 ≤ v → v < m → BagAt H' r gl (n + 1) → Kb r gl H H' → Q (.int v) H'
structure BgF (mg : Str → Option Value) : Prop where
  abs : mg "abs" = none
structure DrF (mg : Str → Option Value) : Prop where
  len : mg "len" = none
theorem n_61 : (2305843009213693951 : Int) ≠ 0 := by decide
section
variable {P : Program} {w : World} {K : PySem.W.Frag} {mg : Str → Option Value} {base : Heap}
theorem ok_bag {f : Addr} {fd : FuncData} {k : Nat} (F : Fun K "_law_bag" "_law_bag" sLBag f fd) (Z : BgF mg) : FnOk P w K mg base CX0 (k + 1) f fd ["script"] (spBag K) := by
  refine F.ok scBag (fun vs H Q E h => ?_) (fun cdv A outer s H vs Q E hr h => ?_)
  · obtain ⟨a, ns, rfl, _⟩ := h
    rfl
  · obtain ⟨a, ns, rfl, hS, hlen, q⟩ := h
    refine ⟨_, (pss_cons (ps_par (i := 1) (j := 2) rfl scBag.nd rfl rfl (by decide) rfl rfl (pa_cons pe_int (pa_cons (pe_lst pa_nil) pa_nil)) rfl)
      (pss_cons (ps_for PassesOwn.never rfl (pi_list (pv 0)) (pg_name (i := 3) scBag.nd rfl (.inl rfl))
          (pss_cons (ps_set (i := 1) scBag.nd rfl (.inl rfl) (pe_op op_modN (pe_op op_add (pe_op op_mul (pv 1) pe_int) (pv 3)) pe_int))
          (pss_one (ps_if (pt_cmpR op_ge (pe_callB call_abs (by rfl) Z.abs (by decide +kernel) (pa_cons (pv 3) pa_nil)) (pe_op op_pow pe_int pe_int) (nomark _))
              (pss_one (ps_expr (pe_bm PySem.F.plainAttrs_list PySem.F.slot_list_append PySem.F.type_list_append mt_append (pv 2) (pa_cons (pe_callB call_abs (by rfl) Z.abs (by decide +kernel) (pa_cons (pv 3) pa_nil)) pa_nil)))) pss_nil))))
      (pss_one (ps_ret (pe_disp (pps_cons pe_str (pv 2) (pps_cons pe_str pe_int (pps_cons pe_str pe_int (pps_cons pe_str (pv 1) pps_nil)))) (by rfl) (by rfl) (fun z => by cases z) (by decide)))))), ?_⟩
    refine ⟨Nat.zero_le _, fun gl ngl => ?_⟩
    have s0 := same_upd (o := .lst []) ngl
    refine ⟨_, _, rfl, ?_⟩
    refine ⟨_, rfl, a, rfl, ⟨_, s0.seq hS⟩, ?_⟩
    refine for_it (walk_list (xs := ns.map V.int)) (fun i σ H' => Same H H' ∧ ∃ (b : Int) (ds : List Int) (y3 : Option V), σ = [some (.ref a), some (.int b), some (.ref gl), y3] ∧ H' gl = some (.lst (ds.map V.int)) ∧ (∀ d ∈ ds, 0 ≤ d) ∧ 0 ≤ b ∧ b < 2305843009213693952 ∧ ds.length ≤ i)
      ⟨s0, 11, [], none, rfl, upd_same, (fun d hd => by cases hd), by decide, by decide, Nat.le_refl _⟩ (fun i σ H' _ hQ => hQ.1.seq hS) ?_ ?_
    · rintro i u σ H1 H2 hi ⟨sm, b, ds, y3, rfl, hp, hds, hb0, hb1, hl⟩ ⟨rfl, hu⟩
      obtain ⟨z, rfl⟩ : ∃ z : Int, u = .int z := by
        obtain ⟨z, _, e⟩ := List.mem_map.mp (List.mem_of_getElem? hu)
        exact ⟨z, e.symm⟩
      have f1 := fm (a := b * 1000003 + z) (show (0 : Int) < 2305843009213693951 by decide)
      refine ⟨_, rfl, _, _, rfl, rfl, .inl ⟨by omega, by omega⟩, _, rfl, _, _, rfl, rfl, _, _, rfl, rfl, n_61, ?_⟩
      refine ⟨_, rfl, _, rfl, _, _, rfl, rfl, ⟨by decide, by decide, by decide⟩, _, _, rfl, rfl, _, rfl, ite2 (fun c => ?_) (fun c => ?_)⟩
      · refine ⟨_, rfl, .inl ⟨rfl, _, .inl (.inl hp)⟩, _, rfl, _, rfl, ?_⟩
        refine ⟨gl, _, _, rfl, rfl, hp, by rw [List.length_map, sizeLine_eq]; have : (ns.map V.int).length = ns.length := List.length_map ..; omega, ?_⟩
        refine ⟨Same.own sm ngl, _, ds ++ [if z < 0 then -z else z], _, rfl, by rw [upd_same, List.map_append]; rfl, fun d hd => ?_, f1.1, by omega, by rw [List.length_append]; exact Nat.add_le_add_right hl 1⟩
        rcases List.mem_append.mp hd with h | h
        · exact hds d h
        · rw [List.mem_singleton.mp h]
          split <;> omega
      · exact ⟨sm, _, ds, _, rfl, hp, hds, f1.1, by omega, by omega⟩
    · rintro σ H1 ⟨sm, b, ds, y3, rfl, hp, hds, hb0, hb1, hl⟩
      refine fun r nr => ?_
      have s1 := same_upd (o := .dK []) nr
      refine ⟨_, rfl, _, rfl, upd_same, [(.inr "great", .ref gl), (.inr "left", .int 0), (.inr "turn", .int 0), (.inr "blend", .int b)], rfl, (show 4 ≤ 15 by decide), ?_⟩
      have hne : r ≠ gl := Ne.symm (ne_of_none hp nr)
      refine q _ r gl (Same.own (sm.trans s1) (sm.free nr)) (sm.free nr) ngl ⟨ds, 0, 0, b, upd_same, ?_, hds, by decide, by decide, by decide, hb0, hb1, hne⟩
      rw [upd_ne (Ne.symm hne)]
      exact s1 _ _ hp
theorem ok_draw {f : Addr} {fd : FuncData} {k : Nat} (F : Fun K "_law_draw" "_law_draw" sLDraw f fd) (Z : DrF mg) : FnOk P w K mg base CX0 (k + 1) f fd ["bag", "many"] spDraw := by
  refine F.ok scDraw (fun vs H Q E h => ?_) (fun cdv A outer s H vs Q E hr h => ?_)
  · obtain ⟨r, gl, n, m, rfl, _⟩ := h
    rfl
  · obtain ⟨r, gl, n, m, rfl, ⟨ds, l, t, b, h1, h2, h3, h4, h5, h6, h7, h8, h9⟩, hn, hm0, hm1, q⟩ := h
    refine ⟨_, (pss_cons (ps_if (PW.pt (pw_and (pt_cmpR op_lt (pe_dget (hu_of hr) (pv 0) pe_str (fun _ _ => rfl)) (pv 1) (nomark _)) (pw_and1 (pt_cmpR op_gt (pe_callB call_len_seq (by rfl) Z.len PySem.boot_len (pa_cons (pe_dget (hu_of hr) (pv 0) pe_str (fun _ _ => rfl)) pa_nil)) pe_int (nomark _)))))
          (pss_one (ps_dput (hu_of hr) (pv 0) pe_str (pe_bm PySem.F.plainAttrs_list PySem.F.slot_list_pop PySem.F.type_list_pop mt_popAt (pe_dget (hu_of hr) (pv 0) pe_str (fun _ _ => rfl)) (pa_cons pe_int pa_nil)) rfl)) pss_nil)
      (pss_cons (ps_if (pt_cmpR op_ge (pe_dget (hu_of hr) (pv 0) pe_str (fun _ _ => rfl)) (pv 1) (nomark _))
          (pss_cons (ps_set (i := 2) scDraw.nd rfl (.inl rfl) (pe_op op_modN (pe_dget (hu_of hr) (pv 0) pe_str (fun _ _ => rfl)) (pv 1)))
          (pss_cons (ps_dput (hu_of hr) (pv 0) pe_str (pe_op op_fdivW (pe_dget (hu_of hr) (pv 0) pe_str (fun _ _ => rfl)) (pv 1)) rfl)
          (pss_one (ps_ret (pv 2))))) pss_nil)
      (pss_cons (ps_daug (hu_of hr) (pv 0) pe_str pe_int in_add (fun _ _ _ => rfl))
      (pss_cons (ps_set (i := 3) scDraw.nd rfl (.inl rfl) (pe_dget (hu_of hr) (pv 0) pe_str (fun _ _ => rfl)))
      (pss_cons (ps_set (i := 4) scDraw.nd rfl (.inl rfl) (pe_op op_add (pe_op op_mulW (pe_op op_add (pe_dget (hu_of hr) (pv 0) pe_str (fun _ _ => rfl)) (pe_op op_mul pe_int (pv 3))) (pe_op op_powW (pe_op op_add (pv 3) pe_int) pe_int)) (pe_op op_mul pe_int (pv 3))))
      (pss_one (ps_ret (pe_op op_modN (pe_op op_fdiv (pe_op op_modN (pe_op op_powW (pe_op op_modN (pv 4) pe_int) pe_int) (pe_op op_add (pe_op op_pow pe_int pe_int) pe_int)) pe_int) (pv 1))))))))), ?_⟩
    have hmn : m ≠ 0 := by omega
    refine if_fin (fun σ H1 => ∃ (ds : List Int) (l : Int), σ = [some (.ref r), some (.int m), none, none, none] ∧ Kb r gl H H1 ∧ H1 r = some (.dK (bagK gl l t b)) ∧ H1 gl = some (.lst (ds.map V.int)) ∧ (∀ d ∈ ds, 0 ≤ d) ∧ 0 ≤ l) (fun R hR => ?_) (fun σ H1 hF => ?_)
    · refine ⟨_, rfl, r, _, rfl, bag_get h1 bag_left, _, rfl, _, _, rfl, rfl, _, rfl, ?_⟩
      by_cases c : l < m
      · rw [decide_eq_true c]
        refine iteT ⟨_, rfl, r, _, rfl, bag_get h1 bag_great, gl, _, rfl, .inl (.inl (.inl h2)), _, _, rfl, rfl, _, rfl, ?_⟩
        cases ds with
        | nil => exact iteF (hR _ _ ⟨[], l, rfl, Kb.refl r gl H, h1, h2, h3, h4⟩)
        | cons d ds =>
          rw [decide_eq_true (show ((((d :: ds).map V.int).length : Nat) : Int) > 0 by rw [List.length_map, List.length_cons]; omega)]
          refine iteT ?_
          refine ⟨_, rfl, r, _, rfl, bag_get h1 bag_great, .inl ⟨rfl, _, .inl (.inl h2)⟩, ?_⟩
          refine ⟨gl, (d :: ds).map V.int, 0, 0, .int d, rfl, rfl, h2, by decide, by decide, PySem.seqIndex_of (by decide) (by simp), rfl, ?_⟩
          have hr2 : upd H gl (.lst (((d :: ds).map V.int).eraseIdx 0)) r = some (.dK (bagK gl l t b)) := by rw [upd_ne h9]; exact h1
          refine ⟨_, rfl, r, _, rfl, DPut.k (k := .inr "left") hr2 (show 4 < sizeLine by decide), hR _ _ ⟨ds, d, rfl, Kb.upd_g.trans Kb.upd_r, upd_same, ?_, fun x hx => h3 x (List.mem_cons_of_mem _ hx), h3 d (List.mem_cons_self ..)⟩⟩
          rw [upd_ne (Ne.symm h9)]
          exact upd_same
      · rw [decide_eq_false c]
        exact iteF (hR _ _ ⟨ds, l, rfl, Kb.refl r gl H, h1, h2, h3, h4⟩)
    · obtain ⟨ds, l, rfl, hk, h1, h2, h3, h4⟩ := hF
      refine ⟨_, rfl, r, _, rfl, bag_get h1 bag_left, _, rfl, _, _, rfl, rfl, _, rfl, ite2 (fun c => ?_) (fun c => ?_)⟩
      · refine ⟨_, rfl, r, _, rfl, bag_get h1 bag_left, _, rfl, _, _, rfl, rfl, hmn, ?_⟩
        refine ⟨_, rfl, r, _, rfl, bag_get h1 bag_left, _, rfl, _, _, rfl, rfl, wide_div hm0 hm1 (by decide) (by decide), ?_⟩
        refine ⟨_, rfl, r, _, rfl, DPut.k (k := .inr "left") h1 (show 4 < sizeLine by decide), ?_⟩
        refine ⟨_, rfl, ?_⟩
        have f1 := fm (a := l) hm0
        refine q _ _ f1.1 f1.2 ⟨ds, l / m, t, b, upd_same, ?_, h3, Int.ediv_nonneg h4 (by omega), h5, by omega, h7, h8, h9⟩ (hk.trans Kb.upd_r)
        rw [upd_ne (Ne.symm h9)]
        exact h2
      · refine ⟨_, rfl, r, _, rfl, bag_get h1 bag_turn, _, _, rfl, rfl, _, DPut.k (k := .inr "turn") h1 (show 4 < sizeLine by decide), ?_⟩
        have hr2 : upd H1 r (.dK (putK (bagK gl l t b) (.inr "turn") (.int (t + 1)))) r = some (.dK (bagK gl l (t + 1) b)) := upd_same
        have hg2 : upd H1 r (.dK (putK (bagK gl l t b) (.inr "turn") (.int (t + 1)))) gl = some (.lst (ds.map V.int)) := by rw [upd_ne (Ne.symm h9)]; exact h2
        have hk2 : Kb r gl H (upd H1 r (.dK (putK (bagK gl l t b) (.inr "turn") (.int (t + 1))))) := hk.trans Kb.upd_r
        dsimp only
        generalize upd H1 r (.dK (putK (bagK gl l t b) (.inr "turn") (.int (t + 1)))) = H2 at hr2 hg2 hk2
        refine ⟨_, rfl, r, _, rfl, bag_get hr2 bag_turn, ?_⟩
        refine ⟨_, rfl, r, _, rfl, bag_get hr2 bag_blend, _, rfl, _, _, rfl, rfl, .inl ⟨by decide, by decide⟩, _, _, rfl, rfl, _, rfl, _, _, rfl, rfl, _, _, rfl, rfl, pow_sm (by omega) (by omega) (by decide) (by decide), _, _, rfl, rfl, ?_, ?_⟩
        · have e : (t + 1 + 29) ^ Int.toNat 2 = (t + 1 + 29) * (t + 1 + 29) := by
            show (t + 1 + 29) ^ 2 = _
            rw [Int.pow_succ, Int.pow_succ, Int.pow_zero, Int.one_mul]
          have hx : Sm 32 (t + 1 + 29) := by
            unfold Sm
            have : (2 : Nat) ^ 32 = 4294967296 := by decide
            omega
          have := hx.mul hx
          rw [← e] at this
          exact wide_mul (a := 63) (b := 64) (by have : (2 : Nat) ^ 63 = 9223372036854775808 := by decide
                                                 omega) this (by decide) (by decide) (by decide)
        · have f1 := fun a : Int => fm (a := a) (show (0 : Int) < 2305843009213693951 by decide)
          refine ⟨_, rfl, _, _, rfl, rfl, .inl ⟨by decide, by decide⟩, _, _, rfl, rfl, ?_⟩
          refine ⟨_, rfl, _, _, rfl, rfl, n_61, ?_⟩
          refine ⟨_, _, rfl, rfl, pow_sm (f1 _).1 (Int.lt_trans (f1 _).2 (by decide)) (by decide) (by decide), _, _, rfl, rfl, ⟨by decide, by decide, by decide⟩, _, _, rfl, rfl, _, _, rfl, rfl, p18n, _, _, rfl, rfl, ⟨by decide, by decide⟩, _, rfl, _, _, rfl, rfl, hmn, ?_⟩
          exact q _ _ (fm hm0).1 (fm hm0).2 ⟨ds, l, t + 1, b, hr2, hg2, h3, h4, by omega, by omega, h7, h8, h9⟩ hk2
end
end Lw
namespace Lw
open PySem PySem.Spec L2 Lx
theorem scReduced : FnScope ["row", "found", "many", "size_now"] ["row"] (defScope sLReduced) := ⟨rfl, rfl, rfl, by decide +kernel, rfl, by decide +kernel, by decide +kernel⟩
theorem scLUnits : FnScope ["run_now", "b", "a", "many", "j"] ["run_now", "b", "a"] (defScope sLUnits) := ⟨rfl, rfl, rfl, by decide +kernel, rfl, by decide +kernel, by decide +kernel⟩
def spReduced (K : PySem.W.Frag) : Sp := fun vs H Q _ => ∃ l gs, vs = [.ref l] ∧ GsAt K H l gs ∧ gs.length ≤ 1000 ∧ ∀ p H' xs, H p = none → Same H H' → H' p = some (.lst xs) → Prs K H' xs (reduced gs) → Q (.ref p) H'
def spLUnits (K : PySem.W.Frag) : Sp := fun vs H Q _ => ∃ x l r b a n, vs = [x, .int b, .int a] ∧ RnAt K H x l r ∧ RnSm n r ∧ (Fm.keep b a).Ok n ∧ n ≤ 100000 ∧ ∀ H', Same H H' → Q (.int (units r (.keep b a))) H'
structure ReF (mg : Str → Option Value) : Prop where
  len : mg "len" = none
structure UnF (mg : Str → Option Value) : Prop where
  sum : mg "sum" = none
  max : mg "max" = none
section
variable {P : Program} {w : World} {K : PySem.W.Frag} {mg : Str → Option Value} {base : Heap}
theorem ok_reduced {f : Addr} {fd : FuncData} {k : Nat} (F : Fun K "_law_reduced" "_law_reduced" sLReduced f fd) (Z : ReF mg) : FnOk P w K mg base CX0 (k + 1) f fd ["row"] (spReduced K) := by
  refine F.ok scReduced (fun vs H Q E h => ?_) (fun cdv A outer s H vs Q E hr h => ?_)
  · obtain ⟨l, gs, rfl, _⟩ := h
    rfl
  · obtain ⟨l, gs, rfl, ⟨xs, hL, hP⟩, hlen, q⟩ := h
    refine ⟨_, (pss_cons (ps_set (i := 1) scReduced.nd rfl (.inl rfl) (pe_lst pa_nil))
      (pss_cons (ps_for PassesOwn.never rfl (pi_list (pv 0)) (pg_tup (by rfl) (pgs_cons (pg_name (i := 2) scReduced.nd rfl (.inl rfl)) (pgs_cons (pg_name (i := 3) scReduced.nd rfl (.inl rfl)) pgs_nil)))
          (pss_one (ps_if (PW.pt (pw_and (pt_cmpR op_gt (pv 2) pe_int (nomark _)) (pw_and (pt_cmpR op_gt (pe_callB call_len_seq (by rfl) Z.len PySem.boot_len (pa_cons (pv 1) pa_nil)) pe_int (nomark _)) (pw_and1 (pt_cmpR op_eq (pe_ix ix_tup (pe_ix ix_list (pv 1) (pe_un un_neg pe_int) (fun _ _ => rfl)) pe_int (fun _ _ => rfl)) (pv 3) (nomark _))))))
              (pss_one (ps_asg (pe_tup (pa_cons (pe_op op_add (pe_ix ix_tup (pe_ix ix_list (pv 1) (pe_un un_neg pe_int) (fun _ _ => rfl)) pe_int (fun _ _ => rfl)) (pv 2)) (pa_cons (pv 3) pa_nil))) (pg_sub (pv 1) (pe_un un_neg pe_int) set_list)))
              (pss_one (ps_if (pt_cmpR op_gt (pv 2) pe_int (nomark _))
                  (pss_one (ps_expr (pe_bm PySem.F.plainAttrs_list PySem.F.slot_list_append PySem.F.type_list_append mt_append (pv 1) (pa_cons (pe_tup (pa_cons (pv 2) (pa_cons (pv 3) pa_nil))) pa_nil)))) pss_nil)))))
      (pss_one (ps_ret (pv 1))))), ?_⟩
    refine ⟨Nat.zero_le _, fun p np => ?_⟩
    refine ⟨_, rfl, l, rfl, ⟨_, (same_upd (o := .lst []) np).seq hL⟩, ?_⟩
    refine for_it (walk_list (xs := xs)) (fun i σ H' => Same H H' ∧ ∃ y2 y3 zs, σ = [some (.ref l), some (.ref p), y2, y3] ∧ H' p = some (.lst zs) ∧ Prs K H' zs (reduced (gs.take i)) ∧ zs.length ≤ i)
      ⟨same_upd np, none, none, [], rfl, upd_same, .nil, Nat.le_refl _⟩ (fun i σ H' _ hQ => hQ.1.seq hL) ?_ ?_
    · rintro i u σ H1 H2 hi ⟨sm, y2, y3, zs, rfl, hp, hz, hzl⟩ ⟨rfl, hu⟩
      obtain ⟨x, hx, a, rfl, ha'⟩ := hP.get hu
      have ha : SqT K H2 a [.int x.1, .int x.2] := .inl (.inl (sm _ _ ha'))
      have htk := reduced_take hx
      have hxl := hP.len
      have app : ∀ t, H2 t = none → x.1 > 0 → addTo (reduced (gs.take i)) x = reduced (gs.take i) ++ [x] →
          Same H (upd (upd H2 t (.tup [.int x.1, .int x.2])) p (.lst (zs ++ [.ref t]))) ∧ (upd (upd H2 t (.tup [.int x.1, .int x.2])) p (.lst (zs ++ [.ref t]))) p = some (.lst (zs ++ [.ref t])) ∧
          Prs K (upd (upd H2 t (.tup [.int x.1, .int x.2])) p (.lst (zs ++ [.ref t]))) (zs ++ [.ref t]) (reduced (gs.take (i + 1))) ∧ (zs ++ [V.ref t]).length ≤ i + 1 := fun t nt x1 e => by
        have s1 := same_upd (o := .tup [.int x.1, .int x.2]) nt
        refine ⟨Same.own (sm.trans s1) np, upd_same, ?_, by rw [List.length_append]; exact Nat.add_le_add_right hzl 1⟩
        rw [htk, if_pos x1, e]
        exact Prs.lstUpd (s1 _ _ hp) ((hz.same s1).append (.cons ⟨t, rfl, upd_same⟩ .nil))
      refine ⟨a, _, rfl, ha, rfl, _, _, rfl, _, _, rfl, rfl, ?_⟩
      by_cases x1 : x.1 > 0
      · refine ⟨_, rfl, _, _, rfl, rfl, _, rfl, ?_⟩
        rw [decide_eq_true x1]
        refine iteT ⟨_, rfl, p, _, rfl, .inl (.inl (.inl hp)), _, _, rfl, rfl, _, rfl, ?_⟩
        rcases snoc_or (reduced (gs.take i)) with e0 | ⟨as, y, e0⟩
        · have hz0 : zs = [] := by
            have := hz.len
            rw [e0] at this
            exact List.eq_nil_of_length_eq_zero this
          have app' := app
          subst hz0
          refine iteF (iteF ?_)
          refine ⟨_, rfl, _, _, rfl, rfl, _, rfl, ?_⟩
          rw [decide_eq_true x1]
          refine iteT ⟨_, rfl, .inl ⟨rfl, _, .inl (.inl hp)⟩, _, rfl, _, rfl, by show 2 ≤ sizeLine; decide, fun t nt => ?_⟩
          refine ⟨p, [], .ref t, rfl, rfl, same_upd nt _ _ hp, by rw [sizeLine_eq]; decide, ?_⟩
          obtain ⟨r1, r2, r3, r4⟩ := app t nt x1 (by rw [e0]; rfl)
          exact ⟨r1, _, _, _, rfl, r2, r3, r4⟩
        · rw [e0] at hz
          obtain ⟨ws, v, rfl, hw, a2, rfl, ha2'⟩ := Prs.back hz
          have ha2 : SqT K H2 a2 [.int y.1, .int y.2] := .inl (.inl ha2')
          rw [decide_eq_true (show (((ws ++ [V.ref a2]).length : Nat) : Int) > 0 by simp)]
          refine iteT ⟨_, rfl, 1, rfl, p, _, -1, _, rfl, rfl, .inl (.inl hp), atI_last ws (.ref a2), a2, _, 1, _, rfl, rfl, ha2, atI_nat (j := 1) rfl, _, rfl, rfl, _, rfl, ?_⟩
          by_cases ej : y.2 = x.2
          · rw [decide_eq_true (by rw [ej])]
            refine iteT ?_
            refine ⟨_, rfl, 1, rfl, p, _, -1, _, rfl, rfl, .inl (.inl hp), atI_last ws (.ref a2), a2, _, 0, _, rfl, rfl, ha2, atI_nat (j := 0) rfl, _, rfl, _, _, rfl, rfl, _, rfl, by show 2 ≤ sizeLine; decide, fun t nt => ?_⟩
            have s1 := same_upd (o := .tup [.int (y.1 + x.1), .int x.2]) nt
            refine ⟨_, rfl, 1, rfl, p, _, -1, _, rfl, rfl, s1 _ _ hp, ixN_last ws (.ref a2), ?_⟩
            have eset : (ws ++ [V.ref a2]).set ws.length (.ref t) = ws ++ [V.ref t] := by simp
            rw [eset]
            refine ⟨Same.own (sm.trans s1) np, _, _, ws ++ [.ref t], rfl, upd_same, ?_, ?_⟩
            · rw [htk, if_pos x1, e0, addTo_snoc, if_pos ej]
              exact Prs.lstUpd (s1 _ _ hp) ((hw.same s1).append (.cons ⟨t, rfl, upd_same⟩ .nil))
            · simp only [List.length_append, List.length_cons, List.length_nil] at hzl ⊢
              omega
          · rw [decide_eq_false (fun z => ej (V.int.inj z))]
            refine iteF ?_
            refine ⟨_, rfl, _, _, rfl, rfl, _, rfl, ?_⟩
            rw [decide_eq_true x1]
            refine iteT ⟨_, rfl, .inl ⟨rfl, _, .inl (.inl hp)⟩, _, rfl, _, rfl, by show 2 ≤ sizeLine; decide, fun t nt => ?_⟩
            refine ⟨p, _, .ref t, rfl, rfl, same_upd nt _ _ hp, by rw [sizeLine_eq]; simp only [List.length_append, List.length_cons, List.length_nil] at hzl ⊢; have := hP.len; omega, ?_⟩
            obtain ⟨r1, r2, r3, r4⟩ := app t nt x1 (by rw [e0, addTo_snoc, if_neg ej])
            exact ⟨r1, _, _, _, rfl, r2, r3, r4⟩
      · refine ⟨_, rfl, _, _, rfl, rfl, _, rfl, ?_⟩
        rw [decide_eq_false x1]
        refine iteF (iteF ⟨_, rfl, _, _, rfl, rfl, _, rfl, ?_⟩)
        rw [decide_eq_false x1]
        refine iteF ⟨sm, _, _, zs, rfl, hp, ?_, by omega⟩
        rw [htk, if_neg x1]
        exact hz
    · rintro σ H1 ⟨sm, y2, y3, zs, rfl, hp, hz, hzl⟩
      rw [List.take_of_length_le (by rw [← hP.len]; exact Nat.le_refl _)] at hz
      exact ⟨_, rfl, q p H1 zs np sm hp hz⟩
theorem ok_lunits {f : Addr} {fd : FuncData} {k : Nat} (F : Fun K "_law_units" "_law_units" sLUnits f fd) (Z : UnF mg) : FnOk P w K mg base CX0 (k + 1) f fd ["run_now", "b", "a"] (spLUnits K) := by
  refine F.ok scLUnits (fun vs H Q E h => ?_) (fun cdv A outer s H vs Q E hr h => ?_)
  · obtain ⟨x, l, r, b, a, n, rfl, _⟩ := h
    rfl
  · obtain ⟨_, l, r, b, a, n, rfl, ⟨p, rfl, hT, xs, hL, hP⟩, hs, hf, hn, q⟩ := h
    refine ⟨_, (pss_one (ps_ret (pe_op op_add (pe_callB (cr_sum rfl) (by rfl) Z.sum (by decide +kernel) (pa_cons (pe_lc (own := [("many", 3), ("j", 4)]) (g := (gTup K 2 (gCons (gName 3) (gCons (gName 4) gNil)))) (tt := tYes) rfl scLUnits.nd (pi_list (pe_ix ix_tup (pv 0) pe_int (fun _ _ => rfl))) (blkOk_by (own := [("many", 3), ("j", 4)]) (N := ["run_now", "b", "a", "many", "j"]) (sc := defScope sLUnits) (by decide +kernel)) (fun _ _ _ _ _ => (pg_tup (by rfl) (pgs_cons (pg_name (i := 3) scLUnits.nd rfl (.inl rfl)) (pgs_cons (pg_name (i := 4) scLUnits.nd rfl (.inl rfl)) pgs_nil)))) (fun _ _ _ _ _ => pts_nil) (fun _ _ _ _ _ => (pe_op op_mulW (pv 3) (pe_op op_add (pe_op op_add (pe_callB (call_max2 rfl) (by rfl) Z.max (by decide +kernel) (pa_cons pe_int (pa_cons (pe_op op_sub (pv 4) (pv 1)) pa_nil))) (pv 2)) pe_int)))) pa_nil)) (pe_ix ix_tup (pv 0) pe_int (fun _ _ => rfl))))), ?_⟩
    refine ⟨_, rfl, p, _, 0, _, rfl, rfl, hT, atI_nat (j := 0) rfl, l, rfl, ⟨_, hL⟩, fun D nD => ?_⟩
    refine lc_it (walk_list (xs := xs)) (fun i H' => Same H H' ∧ H' D = some (.lst (((r.1.take i).map fun x => x.1 * ((Fm.keep b a).after x.2 + 1)).map V.int))) ⟨same_upd nD, upd_same⟩ (fun i H' _ hQ => hQ.1.seq hL) ?_ ?_
    · rintro i u H1 H2 hi ⟨sm, hD⟩ ⟨rfl, hu⟩
      obtain ⟨x, hx, ap, rfl, ha'⟩ := hP.get hu
      obtain ⟨x1, x2, x3, x4⟩ := hs.1 x (List.mem_of_getElem? hx)
      have hb := Fm.after_ok (hf.mono (Nat.le_succ n)) x2 (x4.mono (Nat.le_succ n))
      have hb2 : Sm (n + 3) ((Fm.keep b a).after x.2 + 1) := hb.2.add (Nat.lt_of_lt_of_le (by decide : (1 : Int).natAbs < 2 ^ 1) (Nat.pow_le_pow_right (by decide) (by omega)))
      refine ⟨ap, _, rfl, .inl (.inl (sm _ _ ha')), rfl, _, _, rfl, _, _, rfl, rfl, rfl, ?_⟩
      refine ⟨_, rfl, _, rfl, _, rfl, _, _, rfl, rfl, _, _, rfl, _, rfl, _, _, rfl, rfl, _, _, rfl, rfl, _, _, rfl, rfl, wide_mul (x3.mono (Nat.le_succ n)) hb2 (by omega) (by omega) (by omega), ?_⟩
      refine ⟨_, hD, ?_, Same.own sm nD, ?_⟩
      · have := hs.2.2.2
        rw [List.length_map, List.length_map, List.length_take, sizeLine_eq]
        omega
      · rw [upd_same, List.take_succ, hx, List.map_append, List.map_append]
        rfl
    · rintro H1 ⟨sm, hD⟩
      rw [List.take_of_length_le (by rw [← hP.len]; exact Nat.le_refl _)] at hD
      refine ⟨D, _, rfl, .inl (.inl hD), _, rfl, p, _, 1, _, rfl, rfl, sameT sm hT, atI_nat (j := 1) rfl, _, _, rfl, rfl, ?_⟩
      rw [sum_mapV]
      exact q _ sm
end
end Lw
namespace Lw
open PySem PySem.Spec L2 Lx
theorem scAfter : FnScope ["run_now", "shape", "units_v", "many", "j"] ["run_now", "shape"] (defScope sLAfter) := ⟨rfl, rfl, rfl, by decide +kernel, rfl, by decide +kernel, by decide +kernel⟩
theorem scRun : FnScope ["bag", "tuples", "most", "wide", "row", "place"] ["bag", "tuples", "most", "wide"] (defScope sLRun) := ⟨rfl, rfl, rfl, by decide +kernel, rfl, by decide +kernel, by decide +kernel⟩
theorem scAny : FnScope ["bag", "far", "b", "a", "k", "c", "place"] ["bag", "far"] (defScope sLAnyWanted) := ⟨rfl, rfl, rfl, by decide +kernel, rfl, by decide +kernel, by decide +kernel⟩
def spLAfter (K : PySem.W.Frag) : Sp := fun vs H Q _ => ∃ x l r y f n, vs = [x, y] ∧ RnAt K H x l r ∧ FmAt K H y f ∧ RnOk n r ∧ f.Ok n ∧ 0 < n ∧ n ≤ 100000 ∧ ∀ v H', Same H H' → NewRn K H H' v (runAfter r f) → Q v H'
abbrev big : Int := 1000000000000000000000000000000
def spRun (K : PySem.W.Frag) : Sp := fun vs H Q _ => ∃ (r gl : Addr) (n tup : Nat) (most wide : Int), vs = [.ref r, .int tup, .int most, .int wide] ∧ BagAt H r gl n ∧ n < 900000000 ∧ tup ≤ 100 ∧ 0 < most ∧ most ≤ big ∧ 0 < wide ∧ wide ≤ big ∧
  ∀ (v : V) (g : List (Int × Int) × Int) (H' : Hp), NewRn K H H' v g → RnOk 111 g → g.1.length ≤ tup → BagAt H' r gl (n + 3 + 2 * tup) → Kb r gl H H' → Q v H'
def spAny : Sp := fun vs H Q _ => ∃ (r gl : Addr) (n : Nat) (far : Int), vs = [.ref r, .int far] ∧ BagAt H r gl n ∧ n < 900000000 ∧ 0 < far ∧ far ≤ big ∧
  ∀ (p : Addr) (f : Fm) (H' : Hp), H p = none → H' p = some (.tup f.vs) → f.Ok 101 → (∀ x ∈ f.nums, x ≤ max far 4) → BagAt H' r gl (n + 9) → Kb r gl H H' → Q (.ref p) H'
structure AfF (mg : Str → Option Value) : Prop where
  max : mg "max" = none
structure RuF (mg : Str → Option Value) : Prop where
  range : mg "range" = none
theorem nm2 {b a y : Int} (h1 : b ≤ y) (h2 : a ≤ y) : ∀ x ∈ (Fm.keep b a).nums, x ≤ y := fun x hx => by
  simp only [Fm.nums, List.mem_cons, List.not_mem_nil, or_false] at hx
  omega
theorem nm3 {b a k y : Int} (h1 : b ≤ y) (h2 : a ≤ y) (h3 : k ≤ y) : ∀ x ∈ (Fm.cr b a k).nums, x ≤ y := fun x hx => by
  simp only [Fm.nums, List.mem_cons, List.not_mem_nil, or_false] at hx
  omega
theorem nm4 {b a k c y : Int} (h1 : b ≤ y) (h2 : a ≤ y) (h3 : k ≤ y) (h4 : c ≤ y) : ∀ x ∈ (Fm.lf b a k c).nums, x ≤ y := fun x hx => by
  simp only [Fm.nums, List.mem_cons, List.not_mem_nil, or_false] at hx
  omega
theorem big_sm {x : Int} (h0 : 0 ≤ x) (h1 : x ≤ big) : Sm 100 x := by
  have : (2 : Nat) ^ 100 = 1267650600228229401496703205376 := by decide +kernel
  have h2 : x ≤ 1000000000000000000000000000000 := h1
  unfold Sm
  omega
theorem big_40 {x : Int} (h0 : 0 < x) (h1 : x ≤ big) : x.natAbs < 2 ^ 4000 := Nat.lt_of_lt_of_le (big_sm (Int.le_of_lt h0) h1) (Nat.pow_le_pow_right (by decide) (by decide))
theorem moved_sm {n : Nat} {r : List (Int × Int) × Int} {f : Fm} (h : RnSm n r) (hf : f.Ok n) : GsSm (n + 1) (moved f r.1) ∧ (moved f r.1).length ≤ 1000 := by
  refine ⟨fun x hx => ?_, by unfold moved; rw [List.length_map]; exact h.2.2.2⟩
  obtain ⟨y, hy, rfl⟩ := List.mem_map.mp hx
  obtain ⟨y1, y2, y3, y4⟩ := h.1 y hy
  have := Fm.after_ok hf y2 y4
  exact ⟨y1, this.1, y3.mono (Nat.le_succ n), this.2⟩
section
variable {P : Program} {w : World} {K : PySem.W.Frag} {mg : Str → Option Value} {base : Heap}
theorem ok_lafter {f aR aN : Addr} {fd dR dN : FuncData} {k : Nat} (F : Fun K "_law_after" "_law_after" sLAfter f fd) (Z : AfF mg)
    (cR : Cl P w K mg base k "_law_reduced" ["row"] (spReduced K) aR dR)
    (cN : Cl P w K mg base k "_law_units" ["run_now", "b", "a"] (spLUnits K) aN dN) : FnOk P w K mg base CX0 (k + 1) f fd ["run_now", "shape"] (spLAfter K) := by
  refine F.ok scAfter (fun vs H Q E h => ?_) (fun cdv A outer s H vs Q E hr h => ?_)
  · obtain ⟨x, l, r, y, f, n, rfl, _⟩ := h
    rfl
  · obtain ⟨_, l, r, _, f, n, rfl, ⟨p, rfl, hT, xs, hL, hP⟩, ⟨yp, rfl, hY⟩, ho, hf, hn0, hn, q⟩ := h
    have hs := RnOk.sm ho
    refine ⟨_, (pss_cons (ps_if (pt_cmpR op_eq (pe_ix ix_tup (pv 1) pe_int (fun _ _ => rfl)) pe_str (nomark _))
          (pss_one (ps_ret (pe_tup (pa_cons (pe_call cR.G hr (by rfl) cR.g cR.kp cR.b .nil pass0 (pa_cons (pe_lc (own := [("many", 3), ("j", 4)]) (g := (gTup K 2 (gCons (gName 3) (gCons (gName 4) gNil)))) (tt := tYes) rfl scAfter.nd (pi_list (pe_ix ix_tup (pv 0) pe_int (fun _ _ => rfl))) (blkOk_by (own := [("many", 3), ("j", 4)]) (N := ["run_now", "shape", "units_v", "many", "j"]) (sc := defScope sLAfter) (by decide +kernel)) (fun _ _ _ _ _ => (pg_tup (by rfl) (pgs_cons (pg_name (i := 3) scAfter.nd rfl (.inl rfl)) (pgs_cons (pg_name (i := 4) scAfter.nd rfl (.inl rfl)) pgs_nil)))) (fun _ _ _ _ _ => pts_nil) (fun _ _ _ _ _ => (pe_tup (pa_cons (pv 3) (pa_cons (pe_op op_add (pe_callB (call_max2 rfl) (by rfl) Z.max (by decide +kernel) (pa_cons pe_int (pa_cons (pe_op op_sub (pv 4) (pe_ix (ix_t (K := K) rfl) (pv 1) pe_int (fun _ _ => rfl))) pa_nil))) (pe_ix (ix_t (K := K) rfl) (pv 1) pe_int (fun _ _ => rfl))) pa_nil))))) pa_nil)) (pa_cons (pe_ix ix_tup (pv 0) pe_int (fun _ _ => rfl)) pa_nil))))) pss_nil)
      (pss_cons (ps_set (i := 2) scAfter.nd rfl (.inl rfl) (pe_call cN.G hr (by rfl) cN.g cN.kp cN.b .nil pass0 (pa_cons (pv 0) (pa_cons (pe_ix ix_tup (pv 1) pe_int (fun _ _ => rfl)) (pa_cons (pe_ix ix_tup (pv 1) pe_int (fun _ _ => rfl)) pa_nil)))))
      (pss_cons (ps_if (pt_cmpR op_eq (pe_ix ix_tup (pv 1) pe_int (fun _ _ => rfl)) pe_str (nomark _))
          (pss_one (ps_ret (pe_tup (pa_cons (pe_call cR.G hr (by rfl) cR.g cR.kp cR.b .nil pass0 (pa_cons (pe_lst (pa_cons (pe_tup (pa_cons (pe_op op_mulW (pv 2) (pe_ix ix_tup (pv 1) pe_int (fun _ _ => rfl))) (pa_cons (pe_ix ix_tup (pv 1) pe_int (fun _ _ => rfl)) pa_nil))) pa_nil)) pa_nil)) (pa_cons pe_int pa_nil))))) pss_nil)
      (pss_one (ps_ret (pe_tup (pa_cons (pe_lst pa_nil) (pa_cons (pe_op op_mulW (pv 2) (pe_ix ix_tup (pv 1) pe_int (fun _ _ => rfl))) pa_nil)))))))), ?_⟩
    refine ⟨_, rfl, yp, _, 0, _, rfl, rfl, hY, atI_nat (j := 0) f.vs0, rfl, _, rfl, ?_⟩
    have hu := units_ok hs hf
    have hfk : (Fm.keep f.b f.a).Ok n := ⟨hf.b0.1, hf.a0.1, hf.b0.2, hf.a0.2⟩
    have huk : units r (.keep f.b f.a) = units r f := by cases f <;> rfl
    by_cases hk : Fm.isKeep f = true
    · have hnm : decide (V.str f.nm = V.str "keep") = true := by
        cases f with
        | keep b a => rfl
        | _ => cases hk
      rw [hnm]
      refine iteT ?_
      refine ⟨_, rfl, p, _, 0, _, rfl, rfl, hT, atI_nat (j := 0) rfl, l, rfl, ⟨_, hL⟩, fun D nD => ?_⟩
      refine lc_it (walk_list (xs := xs)) (fun i H' => Same H H' ∧ ∃ zs, H' D = some (.lst zs) ∧ Prs K H' zs (moved f (r.1.take i))) ⟨same_upd nD, [], upd_same, .nil⟩ (fun i H' _ hQ => hQ.1.seq hL) ?_ ?_
      · rintro i u H1 H2 hi ⟨sm, zs, hD, hz⟩ ⟨rfl, hu⟩
        obtain ⟨x, hx, ap, rfl, ha'⟩ := hP.get hu
        have hY2 := sameT sm hY
        refine ⟨ap, _, rfl, .inl (.inl (sm _ _ ha')), rfl, _, _, rfl, _, _, rfl, rfl, rfl, ?_⟩
        refine ⟨_, rfl, _, rfl, _, rfl, yp, _, 1, _, rfl, rfl, hY2, atI_nat (j := 1) f.vs1, _, _, rfl, rfl, _, _, rfl, _, rfl, yp, _, 2, _, rfl, rfl, hY2, atI_nat (j := 2) f.vs2, _, _, rfl, rfl, by show 2 ≤ sizeLine; decide, fun t nt => ?_⟩
        have s1 := same_upd (o := .tup [.int x.1, .int (f.after x.2)]) nt
        have hzl : zs.length ≤ 1000 := by
          have e1 := hz.len
          have e2 := hs.2.2.2
          unfold moved at e1
          rw [List.length_map, List.length_take] at e1
          omega
        refine ⟨zs, s1 _ _ hD, by rw [sizeLine_eq]; omega, Same.own (sm.trans s1) nD, _, upd_same, ?_⟩
        have e : moved f (r.1.take (i + 1)) = moved f (r.1.take i) ++ [(x.1, f.after x.2)] := by
          unfold moved
          rw [List.take_succ, hx, List.map_append]
          rfl
        rw [e]
        exact Prs.lstUpd (s1 _ _ hD) ((hz.same s1).append (.cons ⟨t, rfl, upd_same⟩ .nil))
      · rintro H1 ⟨sm, zs, hD, hz⟩
        rw [List.take_of_length_le (by rw [← hP.len]; exact Nat.le_refl _)] at hz
        refine ⟨D, _, rfl, ⟨zs, .inl (.inl hD), hz⟩, (moved_sm hs hf).2, fun p2 H2 ws np2 s2 hp2 hw => ?_⟩
        have hpos : ∀ x ∈ moved f r.1, x.1 > 0 := fun x hx => by
          obtain ⟨y, hy, rfl⟩ := List.mem_map.mp hx
          obtain ⟨i, hi⟩ := List.mem_iff_getElem?.mp hy
          have := (ho.gs i y hi).1
          show y.1 > 0
          omega
        rw [reduced_all hpos] at hw
        refine ⟨_, rfl, p, _, 1, _, rfl, rfl, sameT (sm.trans s2) hT, atI_nat (j := 1) rfl, by show 2 ≤ sizeLine; decide, fun t nt => ?_⟩
        have s3 := same_upd (o := .tup [.ref p2, .int r.2]) nt
        cases f with
        | keep b a => exact q _ _ ((sm.trans s2).trans s3) ⟨t, p2, ws, rfl, (sm.trans s2).free nt, sm.free np2, upd_same, s3 _ _ hp2, hw.same s3⟩
        | _ => cases hk
    · have hk' : Fm.isKeep f = false := by simpa using hk
      have hnm : decide (V.str f.nm = V.str "keep") = false := by
        cases f with
        | keep b a => cases hk'
        | _ => rfl
      rw [hnm]
      refine iteF ⟨_, rfl, _, rfl, yp, _, 1, _, rfl, rfl, hY, atI_nat (j := 1) f.vs1, _, rfl, yp, _, 2, _, rfl, rfl, hY, atI_nat (j := 2) f.vs2, ?_⟩
      refine ⟨.ref p, l, r, f.b, f.a, n, rfl, ⟨p, rfl, hT, xs, hL, hP⟩, hs, hfk, hn, fun H1 sm => ?_⟩
      rw [huk]
      refine ⟨_, rfl, yp, _, 0, _, rfl, rfl, sameT sm hY, atI_nat (j := 0) f.vs0, rfl, _, rfl, ?_⟩
      cases f with
      | keep b a => cases hk'
      | cr b a k' =>
        refine iteF ⟨Nat.zero_le _, fun p2 np2 => ?_⟩
        have s3 := same_upd (o := .lst []) np2
        refine ⟨_, rfl, _, rfl, yp, _, 3, _, rfl, rfl, sameT (sm.trans s3) hY, atI_nat (j := 3) rfl, _, _, rfl, rfl, wide_mul hu.2 hf.2.2.2.2.2 (by omega) hn0 (by omega), by show 2 ≤ sizeLine; decide, fun t nt => ?_⟩
        have s4 := same_upd (o := .tup [.ref p2, .int (units r (.cr b a k') * k')]) nt
        refine q _ _ ((sm.trans s3).trans s4) ⟨t, p2, [], rfl, (sm.trans s3).free nt, sm.free np2, ?_, s4 _ _ upd_same, .nil⟩
        refine upd_same.trans ?_
        show some (HO.tup [V.ref p2, V.int (units r (.cr b a k') * k')]) = some (HO.tup [V.ref p2, V.int (k' * units r (.cr b a k'))])
        rw [Int.mul_comm]
      | lf b a k' c =>
        refine iteT ⟨_, rfl, _, rfl, yp, _, 3, _, rfl, rfl, sameT sm hY, atI_nat (j := 3) rfl, _, _, rfl, rfl, wide_mul hu.2 hf.2.2.2.2.2.2.1 (by omega) hn0 (by omega), _, rfl, yp, _, 4, _, rfl, rfl, sameT sm hY, atI_nat (j := 4) rfl, by show 2 ≤ sizeLine; decide, fun g ng => ⟨by show 1 ≤ sizeLine; decide, fun l2 nl2 => ?_⟩⟩
        have s3 := same_upd (o := .tup [.int (units r (.lf b a k' c) * k'), .int c]) ng
        have s4 := same_upd (o := .lst [.ref g]) nl2
        refine ⟨l2, [(units r (.lf b a k' c) * k', c)], rfl, ⟨[.ref g], .inl (.inl upd_same), .cons ⟨g, rfl, s4 _ _ upd_same⟩ .nil⟩, by show 1 ≤ 1000; decide, fun p3 H3 ws np3 s5 hp3 hw => ?_⟩
        refine ⟨by show 2 ≤ sizeLine; decide, fun t nt => ?_⟩
        have s6 := same_upd (o := .tup [.ref p3, .int 0]) nt
        have sA := (sm.trans s3).trans s4
        have e : runAfter r (.lf b a k' c) = (reduced [(units r (.lf b a k' c) * k', c)], 0) := by
          have hp := Int.mul_nonneg hu.1 (Int.le_of_lt hf.2.2.1)
          show (if k' * units r (.lf b a k' c) = 0 then (([] : List (Int × Int)), (0 : Int)) else ([(k' * units r (.lf b a k' c), c)], 0)) = _
          rw [Int.mul_comm] at hp ⊢
          by_cases z : k' * units r (.lf b a k' c) = 0
          · rw [if_pos (by rw [Int.mul_comm]; exact z)]
            unfold reduced
            rw [Int.mul_comm (units r (.lf b a k' c)) k', z]
            rfl
          · rw [if_neg (by rw [Int.mul_comm]; exact z)]
            have hgt : k' * units r (.lf b a k' c) > 0 := by omega
            rw [Int.mul_comm (units r (.lf b a k' c)) k', reduced_all (fun x hx => by rw [List.mem_singleton.mp hx]; exact hgt)]
            rfl
        refine q _ _ ((sA.trans s5).trans s6) ?_
        rw [e]
        exact ⟨t, p3, ws, rfl, (sA.trans s5).free nt, sA.free np3, upd_same, s6 _ _ hp3, hw.same s6⟩
theorem ok_run {f aR aD : Addr} {fd dR dD : FuncData} {k : Nat} (F : Fun K "_law_run" "_law_run" sLRun f fd) (Z : RuF mg)
    (cR : Cl P w K mg base k "_law_reduced" ["row"] (spReduced K) aR dR)
    (cD : Cl P w K mg base k "_law_draw" ["bag", "many"] spDraw aD dD) : FnOk P w K mg base CX0 (k + 1) f fd ["bag", "tuples", "most", "wide"] (spRun K) := by
  refine F.ok scRun (fun vs H Q E h => ?_) (fun cdv A outer s H vs Q E hr h => ?_)
  · obtain ⟨r, gl, n, tup, most, wide, rfl, _⟩ := h
    rfl
  · obtain ⟨r, gl, n, tup, most, wide, rfl, hS, hn, ht, m0, m1, w0, w1, q⟩ := h
    refine ⟨_, (pss_cons (ps_setLc (i := 4) (own := [("place", 5)]) (g := (gName 5)) (tt := tYes) rfl scRun.nd rfl rfl (sw_true rfl rfl rfl (by decide +kernel)) (pi_range1 rfl Z.range (pa_cons (pe_call cD.G hr (by rfl) cD.g cD.kp cD.b .nil pass0 (pa_cons (pv 0) (pa_cons (pe_op op_add (pv 1) pe_int) pa_nil))) pa_nil)) (blkOk_by (own := [("place", 5)]) (N := ["bag", "tuples", "most", "wide", "row", "place"]) (sc := defScope sLRun) (by decide +kernel)) (fun _ _ _ _ _ => (pg_name (i := 5) scRun.nd rfl (.inl rfl))) (fun _ _ _ _ _ => pts_nil) (fun _ _ _ _ _ => (pe_tup (pa_cons (pe_op op_add pe_int (pe_call cD.G hr (by rfl) cD.g cD.kp cD.b .nil pass0 (pa_cons (pv 0) (pa_cons (pv 2) pa_nil)))) (pa_cons (pe_call cD.G hr (by rfl) cD.g cD.kp cD.b .nil pass0 (pa_cons (pv 0) (pa_cons (pv 3) pa_nil))) pa_nil)))))
      (pss_one (ps_ret (pe_tup (pa_cons (pe_call cR.G hr (by rfl) cR.g cR.kp cR.b .nil pass0 (pa_cons (pv 4) pa_nil)) (pa_cons (pe_call cD.G hr (by rfl) cD.g cD.kp cD.b .nil pass0 (pa_cons (pv 0) (pa_cons (pe_ix ix_tup (pe_tup (pa_cons pe_int (pa_cons (pv 3) (pa_cons (pv 2) pa_nil)))) (pe_call cD.G hr (by rfl) cD.g cD.kp cD.b .nil pass0 (pa_cons (pv 0) (pa_cons pe_int pa_nil))) (fun _ _ => rfl)) pa_nil))) pa_nil)))))), ?_⟩
    refine ⟨_, rfl, _, rfl, _, _, rfl, rfl, r, gl, n, (tup : Int) + 1, rfl, hS, by omega, by omega, ?_, fun cnt H1 c0 c1 hS1 k1 => ?_⟩
    · exact Nat.lt_of_lt_of_le (show ((tup : Int) + 1).natAbs < 2 ^ 7 by omega) (Nat.pow_le_pow_right (by decide) (by decide))
    refine ⟨_, rfl, by omega, by omega, fun D nD => ?_⟩
    have hDr := hS1.ne nD
    refine lc_it (walk_range (lo := 0) (n := cnt.toNat)) (fun j H' => ∃ zs gs, H' D = some (.lst zs) ∧ Prs K H' zs gs ∧ gs.length = j ∧ GsSm 100 gs ∧ BagAt H' r gl (n + 1 + 2 * j) ∧ Kb r gl H H') ⟨[], [], upd_same, .nil, rfl, (fun x hx => by cases hx), hS1.own hDr, k1.own ((Kb.free k1 hS1 nD))⟩ (fun _ _ _ _ => trivial) ?_ ?_
    · rintro j u H2 H3 hj ⟨zs, gs, hD, hz, hl, hg, hS2, hk2⟩ ⟨rfl, rfl⟩
      refine ⟨rfl, _, rfl, _, rfl, r, gl, _, most, rfl, hS2, by omega, m0, big_40 m0 m1, fun v H4 v0 v1 hS4 k4 => ⟨_, _, rfl, rfl, _, rfl, _, rfl, r, gl, _, wide, rfl, hS4, by omega, w0, big_40 w0 w1, fun v' H5 v0' v1' hS5 k5 => ?_⟩⟩
      refine ⟨by show 2 ≤ sizeLine; decide, fun t nt => ?_⟩
      have s6 := same_upd (o := .tup [.int (1 + v), .int v']) nt
      have kk := k4.trans k5
      have hD5 := s6 _ _ (kk _ _ hDr.1 hDr.2 hD)
      have hz5 := (Prs.kb hS2 kk hz).same s6
      have hlen := hz.len
      refine ⟨zs, hD5, by rw [sizeLine_eq]; omega, zs ++ [.ref t], gs ++ [(1 + v, v')], upd_same, Prs.lstUpd hD5 (hz5.append (.cons ⟨t, rfl, upd_same⟩ .nil)), by rw [List.length_append, hl]; rfl, fun x hx => ?_, ((hS5.same s6).own hDr).mono (by omega), ((hk2.trans kk).trans (Kb.of s6)).own (Kb.free k1 hS1 nD)⟩
      rcases List.mem_append.mp hx with h | h
      · exact hg x h
      · rw [List.mem_singleton.mp h]
        exact ⟨by show 0 ≤ 1 + v; omega, v0', big_sm (by show 0 ≤ 1 + v; omega) (by show 1 + v ≤ big; omega), big_sm v0' (by show v' ≤ big; omega)⟩
    · rintro H2 ⟨zs, gs, hD, hz, hl, hg, hS2, hk2⟩
      have hgl : gs.length ≤ tup := by omega
      obtain ⟨g1, g2⟩ := reduced_ok hg (by omega)
      refine ⟨_, rfl, D, gs, rfl, ⟨zs, .inl (.inl hD), hz⟩, by omega, fun p H3 xs np s3 hp hx => ?_⟩
      have hS3 := hS2.same s3
      have hpr := hS2.ne np
      refine ⟨_, rfl, _, rfl, _, rfl, by show 3 ≤ sizeLine; decide, fun T nT => ?_⟩
      have s4 := same_upd (o := .tup [.int 1, .int wide, .int most]) nT
      refine ⟨_, rfl, r, gl, _, 3, rfl, hS3.same s4, by omega, by decide, by decide, fun c H5 c0 c1 hS5 k5 => ?_⟩
      have hTr : T ≠ r ∧ T ≠ gl := hS3.ne nT
      have hT5 : H5 T = some (.tup [.int 1, .int wide, .int most]) := k5 _ _ hTr.1 hTr.2 upd_same
      have pick : ∃ x : Int, atI [V.int 1, .int wide, .int most] c = some (.int x) ∧ 0 < x ∧ x ≤ big := by
        have : c = 0 ∨ c = 1 ∨ c = 2 := by omega
        rcases this with rfl | rfl | rfl
        · exact ⟨1, rfl, by decide, by decide⟩
        · exact ⟨wide, rfl, w0, w1⟩
        · exact ⟨most, rfl, m0, m1⟩
      obtain ⟨x, hx', x0, x1⟩ := pick
      refine ⟨T, _, c, _, rfl, rfl, .inl (.inl hT5), hx', r, gl, _, x, rfl, hS5, by omega, x0, big_40 x0 x1, fun rest H6 e0 e1 hS6 k6 => ?_⟩
      have kk := ((Kb.of s4).trans k5).trans k6
      refine ⟨by show 2 ≤ sizeLine; decide, fun t nt => ?_⟩
      have s7 := same_upd (o := .tup [.ref p, .int rest]) nt
      have k06 : Kb r gl H H6 := (hk2.trans (Kb.of s3)).trans kk
      have np0 : H p = none := Kb.free hk2 hS2 np
      exact q _ (reduced gs, rest) _ ⟨t, p, xs, rfl, Kb.free k06 hS6 nt, np0, upd_same, s7 _ _ (kk _ _ hpr.1 hpr.2 hp), (Prs.kb hS3 kk hx).same s7⟩ ⟨g1, ⟨e0, (big_sm e0 (by omega)).mono (by decide)⟩, by show (reduced gs).length ≤ 1000; omega⟩ (by show (reduced gs).length ≤ tup; omega) ((hS6.same s7).mono (by omega)) (k06.trans (Kb.of s7))
theorem ok_any {f aD : Addr} {fd dD : FuncData} {k : Nat} (F : Fun K "_law_any_wanted" "_law_any_wanted" sLAnyWanted f fd) (Z : RuF mg)
    (cD : Cl P w K mg base k "_law_draw" ["bag", "many"] spDraw aD dD) : FnOk P w K mg base CX0 (k + 1) f fd ["bag", "far"] spAny := by
  refine F.ok scAny (fun vs H Q E h => ?_) (fun cdv A outer s H vs Q E hr h => ?_)
  · obtain ⟨r, gl, n, far, rfl, _⟩ := h
    rfl
  · obtain ⟨r, gl, n, far, rfl, hS, hn, f0, f1, q⟩ := h
    refine ⟨_, (pss_cons (ps_asg (pe_lc (own := [("place", 6)]) (g := (gName 6)) (tt := tYes) rfl scAny.nd (pi_range1 rfl Z.range (pa_cons pe_int pa_nil)) (blkOk_by (own := [("place", 6)]) (N := ["bag", "far", "b", "a", "k", "c", "place"]) (sc := defScope sLAnyWanted) (by decide +kernel)) (fun _ _ _ _ _ => (pg_name (i := 6) scAny.nd rfl (.inl rfl))) (fun _ _ _ _ _ => pts_nil) (fun _ _ _ _ _ => (pe_call cD.G hr (by rfl) cD.g cD.kp cD.b .nil pass0 (pa_cons (pv 0) (pa_cons (pe_ix (ix_t (K := K) rfl) (pe_tup (pa_cons pe_int (pa_cons (pv 1) pa_nil))) (pe_op op_fdiv (pe_call cD.G hr (by rfl) cD.g cD.kp cD.b .nil pass0 (pa_cons (pv 0) (pa_cons pe_int pa_nil))) pe_int) (fun _ _ => rfl)) pa_nil))))) (pg_unl (by rfl) (pgs_cons (pg_name (i := 2) scAny.nd rfl (.inl rfl)) (pgs_cons (pg_name (i := 3) scAny.nd rfl (.inl rfl)) (pgs_cons (pg_name (i := 4) scAny.nd rfl (.inl rfl)) (pgs_cons (pg_name (i := 5) scAny.nd rfl (.inl rfl)) pgs_nil))))))
      (pss_one (ps_ret (pe_ix ix_tup (pe_tup (pa_cons (pe_tup (pa_cons pe_str (pa_cons (pv 2) (pa_cons (pv 3) pa_nil)))) (pa_cons (pe_tup (pa_cons pe_str (pa_cons (pv 2) (pa_cons (pv 3) (pa_cons (pe_op op_add (pv 4) pe_int) (pa_cons (pv 5) pa_nil)))))) (pa_cons (pe_tup (pa_cons pe_str (pa_cons (pv 2) (pa_cons (pv 3) (pa_cons (pe_op op_add (pv 4) pe_int) pa_nil))))) pa_nil)))) (pe_call cD.G hr (by rfl) cD.g cD.kp cD.b .nil pass0 (pa_cons (pv 0) (pa_cons pe_int pa_nil))) (fun _ _ => rfl))))), ?_⟩
    refine ⟨4, rfl, by decide, by decide, fun D nD => ?_⟩
    have hDr := hS.ne nD
    refine lc_it (walk_range (lo := 0) (n := 4)) (fun j H' => ∃ ns : List Int, H' D = some (.lst (ns.map V.int)) ∧ ns.length = j ∧ (∀ x ∈ ns, 0 ≤ x ∧ x ≤ big ∧ x < max far 4) ∧ BagAt H' r gl (n + 2 * j) ∧ Kb r gl H H') ⟨[], upd_same, rfl, (fun x hx => by cases hx), hS.own hDr, (Kb.refl r gl H).own nD⟩ (fun _ _ _ _ => trivial) ?_ ?_
    · rintro j u H2 H3 hj ⟨ns, hD, hl, hns, hS2, hk2⟩ ⟨rfl, rfl⟩
      refine ⟨rfl, _, rfl, _, rfl, by show 2 ≤ sizeLine; decide, fun T nT => ?_⟩
      have s4 := same_upd (o := .tup [.int 4, .int far]) nT
      refine ⟨_, rfl, r, gl, _, 3, rfl, hS2.same s4, by omega, by decide, by decide, fun c H5 c0 c1 hS5 k5 => ?_⟩
      have hTr := hS2.ne nT
      have hT5 : H5 T = some (.tup [.int 4, .int far]) := k5 _ _ hTr.1 hTr.2 upd_same
      refine ⟨_, _, rfl, rfl, ⟨by decide, by decide⟩, ?_⟩
      have pick : ∃ x : Int, atI [V.int 4, .int far] (c / 2) = some (.int x) ∧ 0 < x ∧ x ≤ big ∧ x ≤ max far 4 := by
        have : c = 0 ∨ c = 1 ∨ c = 2 := by omega
        rcases this with rfl | rfl | rfl
        · exact ⟨4, rfl, by decide, by decide, by omega⟩
        · exact ⟨4, rfl, by decide, by decide, by omega⟩
        · exact ⟨far, rfl, f0, f1, by omega⟩
      obtain ⟨x, hx', x0, x1, x2⟩ := pick
      refine ⟨T, _, _, _, rfl, rfl, .inl (.inl hT5), hx', r, gl, _, x, rfl, hS5, by omega, x0, big_40 x0 x1, fun v H6 e0 e1 hS6 k6 => ?_⟩
      have kk := ((Kb.of s4).trans k5).trans k6
      have hD6 := kk _ _ hDr.1 hDr.2 hD
      refine ⟨_, hD6, by rw [List.length_map, sizeLine_eq]; omega, ns ++ [v], by rw [upd_same, List.map_append]; rfl, by rw [List.length_append, hl]; rfl, fun y hy => ?_, (hS6.own hDr).mono (by omega), (hk2.trans kk).own nD⟩
      rcases List.mem_append.mp hy with h | h
      · exact hns y h
      · rw [List.mem_singleton.mp h]
        exact ⟨e0, by omega, by omega⟩
    · rintro H2 ⟨ns, hD, hl, hns, hS2, hk2⟩
      match ns, hl with
      | [b, a, kk, c], _ =>
        have hb := hns b (by simp)
        have ha := hns a (by simp)
        have hkk := hns kk (by simp)
        have hc := hns c (by simp)
        refine ⟨D, _, rfl, .inl (.inl hD), rfl, _, _, rfl, _, _, rfl, _, _, rfl, _, _, rfl, rfl, ?_⟩
        refine ⟨_, rfl, _, rfl, by show 3 ≤ sizeLine; decide, fun t1 n1 => ?_⟩
        refine ⟨_, rfl, _, rfl, _, rfl, _, _, rfl, rfl, _, rfl, by show 5 ≤ sizeLine; decide, fun t2 n2 => ?_⟩
        refine ⟨_, rfl, _, rfl, _, rfl, _, _, rfl, rfl, by show 4 ≤ sizeLine; decide, fun t3 n3 => ?_⟩
        refine ⟨by show 3 ≤ sizeLine; decide, fun T nT => ?_⟩
        have s1 := same_upd (o := .tup (Fm.keep b a).vs) n1
        have s2 := same_upd (o := .tup (Fm.lf b a (kk + 1) c).vs) n2
        have s3 := same_upd (o := .tup (Fm.cr b a (kk + 1)).vs) n3
        have s4 := same_upd (o := .tup [.ref t1, .ref t2, .ref t3]) nT
        have sA := ((s1.trans s2).trans s3).trans s4
        refine ⟨_, rfl, r, gl, _, 3, rfl, hS2.same sA, by omega, by decide, by decide, fun v H3 v0 v1 hS3 k3 => ?_⟩
        have hTr : T ≠ r ∧ T ≠ gl := (hS2.same ((s1.trans s2).trans s3)).ne nT
        have hT3 : H3 T = some (.tup [.ref t1, .ref t2, .ref t3]) := k3 _ _ hTr.1 hTr.2 upd_same
        have hSA := hS2.same sA
        have h1 := s4 _ _ (s3 _ _ (s2 _ _ (upd_same : upd H2 t1 (.tup (Fm.keep b a).vs) t1 = _)))
        have h2 := s4 _ _ (s3 _ _ (upd_same : upd (upd H2 t1 (.tup (Fm.keep b a).vs)) t2 (.tup (Fm.lf b a (kk + 1) c).vs) t2 = _))
        have h3 := s4 _ _ (upd_same : upd (upd (upd H2 t1 (.tup (Fm.keep b a).vs)) t2 (.tup (Fm.lf b a (kk + 1) c).vs)) t3 (.tup (Fm.cr b a (kk + 1)).vs) t3 = _)
        have hk3 : Kb r gl H H3 := (hk2.trans (Kb.of sA)).trans k3
        have nD0 : ∀ p, H2 p = none → H p = none := fun p => Kb.free hk2 hS2
        have pick : ∃ (p : Addr) (f : Fm), atI [V.ref t1, .ref t2, .ref t3] v = some (.ref p) ∧ H3 p = some (.tup f.vs) ∧ H p = none ∧ f.Ok 101 ∧ ∀ x ∈ f.nums, x ≤ max far 4 := by
          have : v = 0 ∨ v = 1 ∨ v = 2 := by omega
          have sb := (big_sm hb.1 hb.2.1).mono (by decide : 100 ≤ 101)
          have sa := (big_sm ha.1 ha.2.1).mono (by decide : 100 ≤ 101)
          have sc := (big_sm hc.1 hc.2.1).mono (by decide : 100 ≤ 101)
          have sk : Sm 101 (kk + 1) := (big_sm hkk.1 hkk.2.1).add (Nat.lt_of_lt_of_le (by decide : (1 : Int).natAbs < 2 ^ 1) (Nat.pow_le_pow_right (by decide) (by decide)))
          rcases this with rfl | rfl | rfl
          · exact ⟨t1, .keep b a, rfl, k3 _ _ (hSA.neT h1).1 (hSA.neT h1).2 h1, nD0 _ n1, ⟨hb.1, ha.1, sb, sa⟩, nm2 (by omega) (by omega)⟩
          · exact ⟨t2, .lf b a (kk + 1) c, rfl, k3 _ _ (hSA.neT h2).1 (hSA.neT h2).2 h2, nD0 _ (s1.free n2), ⟨hb.1, ha.1, by omega, hc.1, sb, sa, sk, sc⟩, nm4 (by omega) (by omega) (by omega) (by omega)⟩
          · exact ⟨t3, .cr b a (kk + 1), rfl, k3 _ _ (hSA.neT h3).1 (hSA.neT h3).2 h3, nD0 _ ((s1.trans s2).free n3), ⟨hb.1, ha.1, by omega, sb, sa, sk⟩, nm3 (by omega) (by omega) (by omega)⟩
        obtain ⟨p, f, hp, hpt, hn0, hf, hfx⟩ := pick
        exact ⟨T, _, v, _, rfl, rfl, .inl (.inl hT3), hp, q p f H3 hn0 hpt hf hfx (hS3.mono (by omega)) hk3⟩
end
end Lw
namespace Lw
open PySem PySem.Spec L2 Lx
theorem fm_dq' {K : PySem.W.Frag} {H : Hp} {x : V} {f : Fm} : FmAt K H x f → Dq K H x (fdt f) := fun ⟨p, e, h⟩ => by
  subst e
  cases f with
  | keep b a => exact .tup (SqT.tt h) h (.cons (.str _) (.cons (.int _) (.cons (.int _) .nil)))
  | lf b a k c => exact .tup (SqT.tt h) h (.cons (.str _) (.cons (.int _) (.cons (.int _) (.cons (.int _) (.cons (.int _) .nil)))))
  | cr b a k => exact .tup (SqT.tt h) h (.cons (.str _) (.cons (.int _) (.cons (.int _) (.cons (.int _) .nil))))
theorem fdt_self (f : Fm) : PyData.eqv (fdt f) (fdt f) = true := (fdt_eqv f f).mpr rfl
/-! ### joined forms -/
theorem kk_assoc (b a b' a' b'' a'' : Int) (h1 : 0 ≤ a) (h2 : 0 ≤ b') (h3 : 0 ≤ a') (h4 : 0 ≤ b'') :
    (b + (if b' - a > 0 then b' - a else 0)) + (if b'' - ((if a - b' > 0 then a - b' else 0) + a') > 0 then b'' - ((if a - b' > 0 then a - b' else 0) + a') else 0) =
      b + (if (b' + (if b'' - a' > 0 then b'' - a' else 0)) - a > 0 then (b' + (if b'' - a' > 0 then b'' - a' else 0)) - a else 0) ∧
    (if ((if a - b' > 0 then a - b' else 0) + a') - b'' > 0 then ((if a - b' > 0 then a - b' else 0) + a') - b'' else 0) + a'' =
      (if a - (b' + (if b'' - a' > 0 then b'' - a' else 0)) > 0 then a - (b' + (if b'' - a' > 0 then b'' - a' else 0)) else 0) + ((if a' - b'' > 0 then a' - b'' else 0) + a'') := by
  have p1 := pp (b' - a)
  have p2 := pp (a - b')
  have p3 := pp (b'' - a')
  have p4 := pp (a' - b'')
  generalize (if b' - a > 0 then b' - a else 0) = A at *
  generalize (if a - b' > 0 then a - b' else 0) = B at *
  generalize (if b'' - a' > 0 then b'' - a' else 0) = C at *
  generalize (if a' - b'' > 0 then a' - b'' else 0) = D at *
  have p5 := pp (b'' - (B + a'))
  have p6 := pp (B + a' - b'')
  have p7 := pp (b' + C - a)
  have p8 := pp (a - (b' + C))
  generalize (if b'' - (B + a') > 0 then b'' - (B + a') else 0) = E at *
  generalize (if B + a' - b'' > 0 then B + a' - b'' else 0) = F at *
  generalize (if b' + C - a > 0 then b' + C - a else 0) = G at *
  generalize (if a - (b' + C) > 0 then a - (b' + C) else 0) = I at *
  constructor <;> omega
theorem both_assoc {n : Nat} {f g h : Fm} (of : f.Ok n) (og : g.Ok n) (oh : h.Ok n) : (f.both g).both h = f.both (g.both h) := by
  have fa := of.a0.1
  have gb := og.b0.1
  have ga := og.a0.1
  have hb := oh.b0.1
  cases f with
  | keep b a =>
    cases g with
    | keep b' a' =>
      have e := kk_assoc b a b' a' h.b h.a fa gb ga hb
      cases h with
      | keep b'' a'' =>
        show Fm.keep _ _ = Fm.keep _ _
        exact congr (congrArg Fm.keep e.1) e.2
      | lf b'' a'' k'' c'' =>
        show Fm.lf _ _ _ _ = Fm.lf _ _ _ _
        exact congrFun (congrFun (congr (congrArg Fm.lf e.1) e.2) k'') c''
      | cr b'' a'' k'' =>
        show Fm.cr _ _ _ = Fm.cr _ _ _
        exact congrFun (congr (congrArg Fm.cr e.1) e.2) k''
    | lf b' a' k' c' => cases h <;> rfl
    | cr b' a' k' => cases h <;> rfl
  | lf b a k c =>
    cases g with
    | keep b' a' =>
      have e := after_both b' a' h c
      cases h with
      | keep b'' a'' =>
        show Fm.lf b a k _ = Fm.lf b a k _
        exact congrArg (Fm.lf b a k) e
      | lf b'' a'' k'' c'' =>
        show Fm.lf b a (k * ((Fm.lf b'' a'' k'' c'').after ((Fm.keep b' a').after c) + 1) * k'') c'' = Fm.lf b a (k * (((Fm.keep b' a').both (.lf b'' a'' k'' c'')).after c + 1) * k'') c''
        rw [e]
      | cr b'' a'' k'' =>
        show Fm.cr b a (k * ((Fm.cr b'' a'' k'').after ((Fm.keep b' a').after c) + 1) * k'') = Fm.cr b a (k * (((Fm.keep b' a').both (.cr b'' a'' k'')).after c + 1) * k'')
        rw [e]
    | lf b' a' k' c' =>
      cases h with
      | keep b'' a'' => rfl
      | lf b'' a'' k'' c'' =>
        show Fm.lf b a (k * ((Fm.lf b' a' k' c').after c + 1) * k' * ((Fm.lf b'' a'' k'' c'').after c' + 1) * k'') c'' = Fm.lf b a (k * ((Fm.lf b' a' k' c').after c + 1) * (k' * ((Fm.lf b'' a'' k'' c'').after c' + 1) * k'')) c''
        rw [← Int.mul_assoc, ← Int.mul_assoc]
      | cr b'' a'' k'' =>
        show Fm.cr b a (k * ((Fm.lf b' a' k' c').after c + 1) * k' * ((Fm.cr b'' a'' k'').after c' + 1) * k'') = Fm.cr b a (k * ((Fm.lf b' a' k' c').after c + 1) * (k' * ((Fm.cr b'' a'' k'').after c' + 1) * k''))
        rw [← Int.mul_assoc, ← Int.mul_assoc]
    | cr b' a' k' =>
      cases h with
      | keep b'' a'' => rfl
      | lf b'' a'' k'' c'' =>
        show Fm.lf b a (k * ((Fm.cr b' a' k').after c + 1) * k' * 1 * k'') c'' = Fm.lf b a (k * ((Fm.cr b' a' k').after c + 1) * (k' * 1 * k'')) c''
        rw [← Int.mul_assoc, ← Int.mul_assoc]
      | cr b'' a'' k'' =>
        show Fm.cr b a (k * ((Fm.cr b' a' k').after c + 1) * k' * 1 * k'') = Fm.cr b a (k * ((Fm.cr b' a' k').after c + 1) * (k' * 1 * k''))
        rw [← Int.mul_assoc, ← Int.mul_assoc]
  | cr b a k =>
    cases g with
    | keep b' a' =>
      cases h <;> rfl
    | lf b' a' k' c' =>
      cases h with
      | keep b'' a'' => rfl
      | lf b'' a'' k'' c'' =>
        show Fm.lf b a (k * 1 * k' * ((Fm.lf b'' a'' k'' c'').after c' + 1) * k'') c'' = Fm.lf b a (k * 1 * (k' * ((Fm.lf b'' a'' k'' c'').after c' + 1) * k'')) c''
        rw [← Int.mul_assoc, ← Int.mul_assoc]
      | cr b'' a'' k'' =>
        show Fm.cr b a (k * 1 * k' * ((Fm.cr b'' a'' k'').after c' + 1) * k'') = Fm.cr b a (k * 1 * (k' * ((Fm.cr b'' a'' k'').after c' + 1) * k''))
        rw [← Int.mul_assoc, ← Int.mul_assoc]
    | cr b' a' k' =>
      cases h with
      | keep b'' a'' => rfl
      | lf b'' a'' k'' c'' =>
        show Fm.lf b a (k * 1 * k' * 1 * k'') c'' = Fm.lf b a (k * 1 * (k' * 1 * k'')) c''
        rw [← Int.mul_assoc, ← Int.mul_assoc]
      | cr b'' a'' k'' =>
        show Fm.cr b a (k * 1 * k' * 1 * k'') = Fm.cr b a (k * 1 * (k' * 1 * k''))
        rw [← Int.mul_assoc, ← Int.mul_assoc]
theorem both_nothing {n : Nat} {f : Fm} (of : f.Ok n) : f.both nothing = f := by
  have ha := of.a0.1
  cases f with
  | keep b a =>
    have p1 := pp (0 - a)
    have p2 := pp (a - 0)
    show Fm.keep (b + (if 0 - a > 0 then 0 - a else 0)) ((if a - 0 > 0 then a - 0 else 0) + 0) = _
    have ha' : 0 ≤ a := ha
    congr 1 <;> omega
  | lf b a k c =>
    show Fm.lf b a k (nothing.after c) = _
    rw [after_nothing of.2.2.2.1]
  | cr b a k => rfl
theorem nothing_both {n : Nat} {f : Fm} (of : f.Ok n) : nothing.both f = f := by
  have hb := of.b0.1
  have p1 := pp (f.b - 0)
  have p2 := pp (0 - f.b)
  have e1 : 0 + (if f.b - 0 > 0 then f.b - 0 else 0) = f.b := by omega
  have e2 : (if 0 - f.b > 0 then 0 - f.b else 0) + f.a = f.a := by omega
  have e : nothing.both f = Fm.ahead (0 + (if f.b - 0 > 0 then f.b - 0 else 0)) ((if 0 - f.b > 0 then 0 - f.b else 0) + f.a) f := rfl
  rw [e, e1, e2]
  cases f <;> rfl
theorem nothing_ok (n : Nat) : nothing.Ok n := ⟨by decide, by decide, Nat.two_pow_pos n, Nat.two_pow_pos n⟩
theorem both_ok {n : Nat} (hn : 0 < n) {f g : Fm} (of : f.Ok n) (og : g.Ok n) : (f.both g).Ok (3 * n + 3) := by
  have gb := og.b0
  have ga := og.a0
  have o1 : Sm n 1 := Nat.lt_of_lt_of_le (by decide : (1 : Int).natAbs < 2 ^ 1) (Nat.pow_le_pow_right (by decide) hn)
  cases f with
  | keep b a =>
    obtain ⟨b0, a0, sb, sa⟩ := of
    have p1 := pp (g.b - a)
    have p2 := pp (a - g.b)
    have hB : 0 ≤ b + (if g.b - a > 0 then g.b - a else 0) ∧ Sm (3 * n + 3) (b + (if g.b - a > 0 then g.b - a else 0)) := ⟨by omega, (Sm.of_le (by omega) (show b + (if g.b - a > 0 then g.b - a else 0) ≤ b + g.b by omega) (sb.add gb.2)).mono (by omega)⟩
    have hA : 0 ≤ (if a - g.b > 0 then a - g.b else 0) + g.a ∧ Sm (3 * n + 3) ((if a - g.b > 0 then a - g.b else 0) + g.a) := ⟨by omega, (Sm.of_le (by omega) (show (if a - g.b > 0 then a - g.b else 0) + g.a ≤ a + g.a by omega) (sa.add ga.2)).mono (by omega)⟩
    cases g with
    | keep b' a' => exact ⟨hB.1, hA.1, hB.2, hA.2⟩
    | lf b' a' k' c' =>
      obtain ⟨_, _, k0, c0, _, _, sk, sc⟩ := og
      exact ⟨hB.1, hA.1, k0, c0, hB.2, hA.2, sk.mono (by omega), sc.mono (by omega)⟩
    | cr b' a' k' =>
      obtain ⟨_, _, k0, _, _, sk⟩ := og
      exact ⟨hB.1, hA.1, k0, hB.2, hA.2, sk.mono (by omega)⟩
  | lf b a k c =>
    obtain ⟨b0, a0, k0, c0, sb, sa, sk, sc⟩ := of
    have hc := Fm.after_ok og c0 sc
    have hu : 0 < g.after c + 1 ∧ Sm (n + 2) (g.after c + 1) := ⟨by have := hc.1; omega, hc.2.add (o1.mono (Nat.le_succ n))⟩
    cases g with
    | keep b' a' => exact ⟨b0, a0, k0, hc.1, sb.mono (by omega), sa.mono (by omega), sk.mono (by omega), hc.2.mono (by omega)⟩
    | lf b' a' k' c' =>
      obtain ⟨_, _, k0', c0', _, _, sk', sc'⟩ := og
      exact ⟨b0, a0, Int.mul_pos (Int.mul_pos k0 hu.1) k0', c0', sb.mono (by omega), sa.mono (by omega), ((sk.mul hu.2).mul sk').mono (by omega), sc'.mono (by omega)⟩
    | cr b' a' k' =>
      obtain ⟨_, _, k0', _, _, sk'⟩ := og
      exact ⟨b0, a0, Int.mul_pos (Int.mul_pos k0 hu.1) k0', sb.mono (by omega), sa.mono (by omega), ((sk.mul hu.2).mul sk').mono (by omega)⟩
  | cr b a k =>
    obtain ⟨b0, a0, k0, sb, sa, sk⟩ := of
    cases g with
    | keep b' a' => exact ⟨b0, a0, k0, sb.mono (by omega), sa.mono (by omega), sk.mono (by omega)⟩
    | lf b' a' k' c' =>
      obtain ⟨_, _, k0', c0', _, _, sk', sc'⟩ := og
      exact ⟨b0, a0, Int.mul_pos (Int.mul_pos k0 (by decide)) k0', c0', sb.mono (by omega), sa.mono (by omega), ((sk.mul o1).mul sk').mono (by omega), sc'.mono (by omega)⟩
    | cr b' a' k' =>
      obtain ⟨_, _, k0', _, _, sk'⟩ := og
      exact ⟨b0, a0, Int.mul_pos (Int.mul_pos k0 (by decide)) k0', sb.mono (by omega), sa.mono (by omega), ((sk.mul o1).mul sk').mono (by omega)⟩
/-! ### a form many times -/
def fp (f : Fm) : Nat → Fm
  | 0 => nothing
  | n + 1 => (fp f n).both f
theorem fp_ok {m : Nat} {f : Fm} (h : f.Ok m) : ∀ n : Nat, ∃ k, (fp f n).Ok k
  | 0 => ⟨0, nothing_ok 0⟩
  | n + 1 => by
    obtain ⟨k, hk⟩ := fp_ok h n
    exact ⟨_, both_ok (n := max k m + 1) (by omega) (hk.mono (by omega)) (h.mono (by omega))⟩
theorem fp_one {m : Nat} {f : Fm} (h : f.Ok m) : fp f 1 = f := nothing_both h
theorem fp_add {m : Nat} {f : Fm} (h : f.Ok m) (i : Nat) : ∀ j : Nat, (fp f i).both (fp f j) = fp f (i + j)
  | 0 => by
    obtain ⟨k, hk⟩ := fp_ok h i
    exact both_nothing hk
  | j + 1 => by
    obtain ⟨k, hk⟩ := fp_ok h i
    obtain ⟨k', hk'⟩ := fp_ok h j
    show (fp f i).both ((fp f j).both f) = (fp f (i + j)).both f
    rw [← both_assoc (n := max (max k k') m) (hk.mono (by omega)) (hk'.mono (by omega)) (h.mono (by omega)), fp_add h i j]
theorem fp_keep {b a : Int} (b0 : 0 ≤ b) (a0 : 0 ≤ a) : ∀ n : Nat, ∃ B A, fp (.keep b a) n = .keep B A ∧ 0 ≤ B ∧ B ≤ n * b ∧ 0 ≤ A ∧ A ≤ n * a
  | 0 => ⟨0, 0, rfl, by decide, by simp, by decide, by simp⟩
  | n + 1 => by
    obtain ⟨B, A, e, h1, h2, h3, h4⟩ := fp_keep b0 a0 n
    have p1 := pp (b - A)
    have p2 := pp (A - b)
    refine ⟨B + (if b - A > 0 then b - A else 0), (if A - b > 0 then A - b else 0) + a, ?_, by omega, ?_, by omega, ?_⟩
    · show (fp (.keep b a) n).both (.keep b a) = _
      rw [e]
      rfl
    · rw [Int.natCast_add, Int.add_mul]
      simp only [Int.natCast_one, Int.one_mul]
      omega
    · rw [Int.natCast_add, Int.add_mul]
      simp only [Int.natCast_one, Int.one_mul]
      omega
theorem fp_lf {m : Nat} {b a k c : Int} (h : (Fm.lf b a k c).Ok m) (hm : 0 < m) : ∀ n : Nat, ∃ K, fp (.lf b a k c) (n + 1) = .lf b a K c ∧ 0 < K ∧ Sm ((n + 1) * (2 * m + 2)) K
  | 0 => ⟨k, fp_one h, h.2.2.1, h.2.2.2.2.2.2.1.mono (by omega)⟩
  | n + 1 => by
    obtain ⟨K, e, K0, K1⟩ := fp_lf h hm n
    have hc := Fm.after_ok h h.2.2.2.1 h.2.2.2.2.2.2.2
    have o1 : Sm m 1 := Nat.lt_of_lt_of_le (by decide : (1 : Int).natAbs < 2 ^ 1) (Nat.pow_le_pow_right (by decide) hm)
    have hu : 0 < (Fm.lf b a k c).after c + 1 ∧ Sm (m + 2) ((Fm.lf b a k c).after c + 1) := ⟨by have := hc.1; omega, hc.2.add (o1.mono (Nat.le_succ m))⟩
    refine ⟨K * ((Fm.lf b a k c).after c + 1) * k, ?_, Int.mul_pos (Int.mul_pos K0 hu.1) h.2.2.1, ((K1.mul hu.2).mul h.2.2.2.2.2.2.1).mono ?_⟩
    · show (fp (.lf b a k c) (n + 1)).both (.lf b a k c) = _
      rw [e]
      rfl
    · have : (n + 1 + 1) * (2 * m + 2) = (n + 1) * (2 * m + 2) + (2 * m + 2) := by rw [Nat.add_mul (n + 1) 1, Nat.one_mul]
      omega
theorem fp_cr {m : Nat} {b a k : Int} (h : (Fm.cr b a k).Ok m) (hm : 0 < m) : ∀ n : Nat, ∃ K, fp (.cr b a k) (n + 1) = .cr b a K ∧ 0 < K ∧ Sm ((n + 1) * (2 * m + 2)) K
  | 0 => ⟨k, fp_one h, h.2.2.1, h.2.2.2.2.2.mono (by omega)⟩
  | n + 1 => by
    obtain ⟨K, e, K0, K1⟩ := fp_cr h hm n
    have o1 : Sm m 1 := Nat.lt_of_lt_of_le (by decide : (1 : Int).natAbs < 2 ^ 1) (Nat.pow_le_pow_right (by decide) hm)
    refine ⟨K * 1 * k, ?_, Int.mul_pos (Int.mul_pos K0 (by decide)) h.2.2.1, ((K1.mul o1).mul h.2.2.2.2.2).mono ?_⟩
    · show (fp (.cr b a k) (n + 1)).both (.cr b a k) = _
      rw [e]
      rfl
    · have : (n + 1 + 1) * (2 * m + 2) = (n + 1) * (2 * m + 2) + (2 * m + 2) := by rw [Nat.add_mul (n + 1) 1, Nat.one_mul]
      omega
/-- how often a form may be repeated here -/
def Often (f : Fm) (n : Nat) : Prop := n ≤ 100 ∨ (Fm.isKeep f = true ∧ n ≤ 2 ^ 100)
theorem Often.le {f : Fm} {n m : Nat} (h : Often f n) (k : m ≤ n) : Often f m := by
  rcases h with h | ⟨h1, h2⟩
  · exact .inl (by omega)
  · exact .inr ⟨h1, Nat.le_trans k h2⟩
theorem fp_sm {m : Nat} {f : Fm} (h : f.Ok m) (hm : 0 < m) (hm2 : m ≤ 440) {n : Nat} (o : Often f n) : (fp f n).Ok 90000 := by
  cases f with
  | keep b a =>
    obtain ⟨b0, a0, sb, sa⟩ := h
    obtain ⟨B, A, e, h1, h2, h3, h4⟩ := fp_keep b0 a0 n
    have hn : n ≤ 2 ^ 100 := by
      rcases o with o | o
      · exact Nat.le_trans o (by decide +kernel)
      · exact o.2
    have sn : Sm 101 (n : Int) := by
      unfold Sm
      have : (2 : Nat) ^ 101 = 2 ^ 100 * 2 := Nat.pow_succ ..
      omega
    rw [e]
    exact ⟨h1, h3, (Sm.of_le h1 h2 (sn.mul sb)).mono (by omega), (Sm.of_le h3 h4 (sn.mul sa)).mono (by omega)⟩
  | lf b a k c =>
    have hn : n ≤ 100 := by
      rcases o with o | o
      · exact o
      · cases o.1
    cases n with
    | zero => exact nothing_ok _
    | succ n =>
      obtain ⟨K, e, K0, K1⟩ := fp_lf h hm n
      obtain ⟨b0, a0, k0, c0, sb, sa, sk, sc⟩ := h
      rw [e]
      have : (n + 1) * (2 * m + 2) ≤ 100 * 882 := Nat.mul_le_mul (by omega) (by omega)
      exact ⟨b0, a0, K0, c0, sb.mono (by omega), sa.mono (by omega), K1.mono (by omega), sc.mono (by omega)⟩
  | cr b a k =>
    have hn : n ≤ 100 := by
      rcases o with o | o
      · exact o
      · cases o.1
    cases n with
    | zero => exact nothing_ok _
    | succ n =>
      obtain ⟨K, e, K0, K1⟩ := fp_cr h hm n
      obtain ⟨b0, a0, k0, sb, sa, sk⟩ := h
      rw [e]
      have : (n + 1) * (2 * m + 2) ≤ 100 * 882 := Nat.mul_le_mul (by omega) (by omega)
      exact ⟨b0, a0, K0, sb.mono (by omega), sa.mono (by omega), K1.mono (by omega)⟩
end Lw
namespace Lw
open PySem PySem.Spec L2 Lx
/-! ### chains put together -/
theorem formL_fle (k : Nat) : ∀ cs : List Nat, cs.length = k → k ≤ 7000 → (∀ c ∈ cs, c ∈ steps.cps.toList) → FLe k (formL cs) := by
  induction k with
  | zero =>
    intro cs e _ _
    rw [List.eq_nil_of_length_eq_zero e]
    exact ⟨by decide, by decide, by decide, by decide⟩
  | succ k ih =>
    intro cs e hk hc
    rcases snoc_or cs with rfl | ⟨ds, c, rfl⟩
    · cases e
    · have ed : ds.length = k := by simpa using e
      have h := ih ds ed (by omega) fun x hx => hc x (List.mem_append.mpr (.inl hx))
      have e2 : formL (ds ++ [c]) = (formL ds).both (stepF c) := by unfold formL; rw [List.foldl_append]; rfl
      rw [e2]
      exact h.step (by omega) (hc c (by simp))
theorem step_ok {c : Nat} (h : c ∈ steps.cps.toList) {n : Nat} (hn : 0 < n) : (stepF c).Ok n := by
  have one : Sm n 1 := Nat.lt_of_lt_of_le (by decide : (1 : Int).natAbs < 2 ^ 1) (Nat.pow_le_pow_right (by decide) hn)
  have zer : Sm n 0 := Nat.two_pow_pos n
  rcases step_cases h with e | e | e | e <;> rw [e]
  · exact ⟨by decide, by decide, zer, one⟩
  · exact ⟨by decide, by decide, one, zer⟩
  · exact ⟨by decide, by decide, by decide, by decide, zer, zer, one, zer⟩
  · exact ⟨by decide, by decide, by decide, zer, zer, one⟩
theorem formL_app7 (a : List Nat) (ha : ∀ c ∈ a, c ∈ steps.cps.toList) (n : Nat) : ∀ b : List Nat, b.length = n → (∀ c ∈ b, c ∈ steps.cps.toList) → a.length + b.length ≤ 7000 → formL (a ++ b) = (formL a).both (formL b) := by
  induction n with
  | zero =>
    intro b e _ hl
    rw [List.eq_nil_of_length_eq_zero e, List.append_nil]
    exact (both_nothing (formL_fle _ a rfl (by omega) ha).ok).symm
  | succ n ih =>
    intro b e hb hl
    rcases snoc_or b with rfl | ⟨ds, c, rfl⟩
    · cases e
    · have ed : ds.length = n := by simpa using e
      have hd : ∀ x ∈ ds, x ∈ steps.cps.toList := fun x hx => hb x (List.mem_append.mpr (.inl hx))
      have hc := hb c (by simp)
      have hl2 : (ds ++ [c]).length = ds.length + 1 := by simp
      have e2 : ∀ xs : List Nat, formL (xs ++ [c]) = (formL xs).both (stepF c) := fun xs => by unfold formL; rw [List.foldl_append]; rfl
      rw [← List.append_assoc, e2, ih ds ed hd (by omega), e2]
      have oa := (formL_fle _ a rfl (by omega) ha).ok
      have ob := (formL_fle _ ds rfl (by omega) hd).ok
      refine both_assoc (n := 13 * 7000 + 1) (oa.mono (by omega)) (ob.mono (by omega)) (step_ok hc (by omega))
theorem formOf_app {x y : Str} (hx : ChOk x) (hy : ChOk y) (hl : x.cps.size + y.cps.size ≤ 7000) : formOf (x ++ y) = (formOf x).both (formOf y) := by
  have e : (x ++ y).cps.toList = x.cps.toList ++ y.cps.toList := Array.toList_append ..
  unfold formOf
  rw [e]
  exact formL_app7 _ hx _ _ rfl hy (by rw [Array.length_toList, Array.length_toList]; exact hl)
theorem ChOk.app {x y : Str} (hx : ChOk x) (hy : ChOk y) : ChOk (x ++ y) := fun c hc => by
  have e : (x ++ y).cps.toList = x.cps.toList ++ y.cps.toList := Array.toList_append ..
  rw [e] at hc
  rcases List.mem_append.mp hc with h | h
  · exact hx c h
  · exact hy c h
theorem app_sz (x y : Str) : (x ++ y).cps.size = x.cps.size + y.cps.size := Array.size_append ..
theorem formOf_fle {x : Str} (hx : ChOk x) (hl : x.cps.size ≤ 7000) : FLe x.cps.size (formOf x) := formL_fle _ _ (Array.length_toList ..) hl hx
theorem formOf_ok {x : Str} (hx : ChOk x) (hl : x.cps.size ≤ 7000) : (formOf x).Ok 91001 := (formOf_fle hx hl).ok.mono (by omega)
/-! ### copies by name -/
inductive Ents (K : PySem.W.Frag) (H : Hp) : List (Key × V) → List (Str × Str) → Prop
  | nil : Ents K H [] []
  | cons {kvs : List (Key × V)} {zs : List (Str × Str)} {v : V} {n z : Str} : FmAt K H v (formOf z) → Ents K H kvs zs → Ents K H ((.inr n, v) :: kvs) ((n, z) :: zs)
theorem Ents.same {K : PySem.W.Frag} {H H' : Hp} (s : ∀ v f, FmAt K H v f → FmAt K H' v f) : ∀ {kvs : List (Key × V)} {zs : List (Str × Str)}, Ents K H kvs zs → Ents K H' kvs zs
  | _, _, .nil => .nil
  | _, _, .cons h t => .cons (s _ _ h) (t.same s)
theorem Ents.len {K : PySem.W.Frag} {H : Hp} : ∀ {kvs : List (Key × V)} {zs : List (Str × Str)}, Ents K H kvs zs → kvs.length = zs.length
  | _, _, .nil => rfl
  | _, _, .cons _ t => by rw [List.length_cons, List.length_cons, t.len]
theorem Ents.get {K : PySem.W.Frag} {H : Hp} {n z : Str} : ∀ {kvs : List (Key × V)} {zs : List (Str × Str)}, Ents K H kvs zs → zs.lookup n = some z → ∃ v, valV kvs (.inr n) = some v ∧ FmAt K H v (formOf z)
  | _, _, .nil, e => by cases e
  | _, _, .cons (n := m) (z := y) (v := v) (kvs := kvs) (zs := zs) h t, e => by
    by_cases c : m = n
    · subst c
      rw [List.lookup_cons_self] at e
      cases e
      exact ⟨v, valV_pos rfl, h⟩
    · rw [List.lookup_cons, show (n == m) = false from beq_false_of_ne (Ne.symm c)] at e
      obtain ⟨u, h1, h2⟩ := Ents.get t e
      exact ⟨u, (valV_neg (fun z => c (Sum.inr.inj z))).trans h1, h2⟩
/-- in its place, or at the end -/
def putZ : List (Str × Str) → Str → Str → List (Str × Str)
  | [], n, z => [(n, z)]
  | (m, y) :: r, n, z => if m = n then (m, z) :: r else (m, y) :: putZ r n z
theorem putZ_len : ∀ (zs : List (Str × Str)) (n z : Str), (putZ zs n z).length ≤ zs.length + 1
  | [], _, _ => Nat.le_refl _
  | (m, y) :: r, n, z => by
    have := putZ_len r n z
    unfold putZ
    split
    · exact Nat.le_succ _
    · show _ + 1 ≤ _ + 1 + 1
      omega
theorem putZ_get (n z m : Str) : ∀ zs : List (Str × Str), (putZ zs n z).lookup m = if m = n then some z else zs.lookup m
  | [] => by
    show List.lookup m [(n, z)] = _
    rw [List.lookup_cons]
    by_cases c : m = n
    · subst c
      simp
    · rw [show (m == n) = false from beq_false_of_ne c, if_neg c]
  | (k, y) :: r => by
    unfold putZ
    by_cases c : k = n
    · subst c
      rw [if_pos rfl, List.lookup_cons, List.lookup_cons]
      by_cases d : m = k
      · subst d
        simp
      · rw [show (m == k) = false from beq_false_of_ne d, if_neg d]
    · rw [if_neg c, List.lookup_cons, List.lookup_cons, putZ_get n z m r]
      by_cases d : m = k
      · subst d
        rw [if_neg c]
        simp [c]
      · rw [show (m == k) = false from beq_false_of_ne d]
/-- no name twice -/
def NdZ (zs : List (Str × Str)) : Prop := (zs.map Prod.fst).Nodup
theorem map_same {kvs : List (Key × V)} {n : Str} {v : V} (h : ∀ kv ∈ kvs, kv.1 ≠ .inr n) : kvs.map (fun kv => if kv.1 = .inr n then (kv.1, v) else kv) = kvs := by
  induction kvs with
  | nil => rfl
  | cons p r ih =>
    rw [List.map_cons, ih fun kv hkv => h kv (List.mem_cons_of_mem _ hkv), if_neg (h p (List.mem_cons_self ..))]
theorem Ents.keys {K : PySem.W.Frag} {H : Hp} {n : Str} : ∀ {kvs : List (Key × V)} {zs : List (Str × Str)}, Ents K H kvs zs → n ∉ zs.map Prod.fst → ∀ kv ∈ kvs, kv.1 ≠ .inr n
  | _, _, .nil, _, kv, hkv => by cases hkv
  | _, _, .cons (n := m) h t, hn, kv, hkv => by
    rcases List.mem_cons.mp hkv with rfl | hkv
    · exact fun e => hn (List.mem_cons.mpr (.inl (Sum.inr.inj e).symm))
    · exact Ents.keys t (fun e => hn (List.mem_cons_of_mem _ e)) kv hkv
theorem Ents.put {K : PySem.W.Frag} {H : Hp} {n z : Str} {v : V} (hv : FmAt K H v (formOf z)) : ∀ {kvs : List (Key × V)} {zs : List (Str × Str)}, Ents K H kvs zs → NdZ zs → Ents K H (putK kvs (.inr n) v) (putZ zs n z)
  | _, _, .nil, _ => .cons hv .nil
  | _, _, .cons (n := m) (z := y) (v := u) (kvs := kvs) (zs := zs) h t, nd => by
    have nd' : m ∉ zs.map Prod.fst ∧ NdZ zs := List.nodup_cons.mp nd
    unfold putZ
    by_cases c : m = n
    · subst c
      have e : putK ((.inr m, u) :: kvs) (.inr m : Key) v = (.inr m, v) :: kvs := by
        unfold putK
        rw [if_pos (by simp), List.map_cons, if_pos rfl, map_same (t.keys nd'.1)]
      rw [e, if_pos rfl]
      exact .cons hv t
    · have ih := Ents.put (n := n) hv t nd'.2
      have cn : ¬ ((.inr m : Key) = .inr n) := fun e => c (Sum.inr.inj e)
      have e : putK ((.inr m, u) :: kvs) (.inr n : Key) v = (.inr m, u) :: putK kvs (.inr n) v := by
        unfold putK
        by_cases a : (kvs.any fun kv => decide (kv.1 = (.inr n : Key))) = true
        · rw [if_pos (by rw [List.any_cons, a]; simp), if_pos a, List.map_cons, if_neg cn]
        · rw [if_neg (by rw [List.any_cons, decide_eq_false cn]; simpa using a), if_neg a]
          rfl
      rw [e, if_neg c]
      exact .cons h ih
theorem putZ_mem {n z : Str} : ∀ {zs : List (Str × Str)} {m : Str}, m ∈ (putZ zs n z).map Prod.fst → m = n ∨ m ∈ zs.map Prod.fst
  | [], m, h => .inl (by simpa [putZ] using h)
  | (k, y) :: r, m, h => by
    unfold putZ at h
    by_cases c : k = n
    · rw [if_pos c] at h
      exact .inr h
    · rw [if_neg c] at h
      rcases List.mem_cons.mp h with rfl | h
      · exact .inr (List.mem_cons_self ..)
      · exact (putZ_mem h).imp id fun q => List.mem_cons_of_mem _ q
theorem putZ_nd {n z : Str} : ∀ {zs : List (Str × Str)}, NdZ zs → NdZ (putZ zs n z)
  | [], _ => by unfold NdZ putZ; simp
  | (k, y) :: r, h => by
    have h' : k ∉ r.map Prod.fst ∧ NdZ r := List.nodup_cons.mp h
    unfold putZ
    by_cases c : k = n
    · rw [if_pos c]
      exact h
    · rw [if_neg c]
      refine List.nodup_cons.mpr ⟨fun hm => ?_, putZ_nd h'.2⟩
      rcases putZ_mem hm with e | e
      · exact c e
      · exact h'.1 e
/-- chains that may be put together with k letters more -/
def ZOk (L : Nat) (zs : List (Str × Str)) : Prop := ∀ n z, zs.lookup n = some z → ChOk z ∧ z.cps.size ≤ L
theorem ZOk.put {L : Nat} {zs : List (Str × Str)} {n z : Str} (h : ZOk L zs) (hz : ChOk z) (hl : z.cps.size ≤ L) : ZOk L (putZ zs n z) := fun m y e => by
  rw [putZ_get] at e
  by_cases c : m = n
  · rw [if_pos c] at e
    cases e
    exact ⟨hz, hl⟩
  · rw [if_neg c] at e
    exact h m y e
theorem ZOk.mono {L L' : Nat} {zs : List (Str × Str)} (h : ZOk L zs) (k : L ≤ L') : ZOk L' zs := fun n z e => ⟨(h n z e).1, Nat.le_trans (h n z e).2 k⟩
/-- a depot stands at p, its dict at d -/
structure DepAt (K : PySem.W.Frag) (C : Addr) (H : Hp) (p d : Addr) (zs : List (Str × Str)) : Prop where
  ob : ∃ dx, H p = some (.ins C dx [("_forms", .ref d)])
  dc : ∃ kvs, H d = some (.dK kvs) ∧ Ents K H kvs zs
  nd : NdZ zs
theorem DepAt.same {K : PySem.W.Frag} {C : Addr} {H H' : Hp} {p d : Addr} {zs : List (Str × Str)} (s : Same H H') (h : DepAt K C H p d zs) : DepAt K C H' p d zs := by
  obtain ⟨⟨dx, h1⟩, ⟨kvs, h2, h3⟩, h4⟩ := h
  exact ⟨⟨dx, s _ _ h1⟩, ⟨kvs, s _ _ h2, h3.same fun v f hv => hv.same s⟩, h4⟩
/-- all but one address is as it was -/
def Kd (d : Addr) (H H' : Hp) : Prop := ∀ b o, b ≠ d → H b = some o → H' b = some o
theorem Kd.refl (d : Addr) (H : Hp) : Kd d H H := fun _ _ _ h => h
theorem Kd.trans {d : Addr} {H H1 H2 : Hp} (a : Kd d H H1) (b : Kd d H1 H2) : Kd d H H2 := fun c o h1 h => b c o h1 (a c o h1 h)
theorem Kd.of {d : Addr} {H H' : Hp} (s : Same H H') : Kd d H H' := fun b o _ h => s b o h
theorem FmAt.kd {K : PySem.W.Frag} {H H' : Hp} {d : Addr} {kvs : List (Key × V)} (hd : H d = some (.dK kvs)) (k : Kd d H H') {v : V} {f : Fm} : FmAt K H v f → FmAt K H' v f := fun ⟨p, h1, h2⟩ => ⟨p, h1, by
  rcases h2 with (h | ⟨o, h⟩) | h
  · exact .inl (.inl (k _ _ (ne_of h hd (by intro z; cases z)) h))
  · exact .inl (.inr ⟨o, k _ _ (ne_of h hd (by intro z; cases z)) h⟩)
  · exact .inr h⟩
end Lw
namespace Lw
open PySem PySem.Spec L2 Lx
/-- one address is as it was -/
def At1 (H H' : Hp) (a : Addr) : Prop := ∀ o, H a = some o → H' a = some o
theorem At1.of {H H' : Hp} (s : Same H H') (a : Addr) : At1 H H' a := fun o h => s a o h
theorem At1.trans {H H1 H2 : Hp} {a : Addr} (x : At1 H H1 a) (y : At1 H1 H2 a) : At1 H H2 a := fun o h => y o (x o h)
theorem Kb.at1 {r gl a : Addr} {H H' : Hp} (k : Kb r gl H H') (h1 : a ≠ r) (h2 : a ≠ gl) : At1 H H' a := fun o h => k a o h1 h2 h
theorem Kd.at1 {d a : Addr} {H H' : Hp} (k : Kd d H H') (h1 : a ≠ d) : At1 H H' a := fun o h => k a o h1 h
theorem BagAt.keep {H H' : Hp} {r gl : Addr} {n : Nat} (b : BagAt H r gl n) (k1 : At1 H H' r) (k2 : At1 H H' gl) : BagAt H' r gl n := by
  obtain ⟨ds, l, t, b', h1, h2, h3⟩ := b
  exact ⟨ds, l, t, b', k1 _ h1, k2 _ h2, h3⟩
theorem FmAt.keepT {K : PySem.W.Frag} {H H' : Hp} {v : V} {f : Fm} (h : FmAt K H v f) (k : ∀ b o, (∀ xs, o ≠ .lst xs) → (∀ kvs, o ≠ .dK kvs) → (∀ C dx fs, o ≠ .ins C dx fs) → H b = some o → H' b = some o) : FmAt K H' v f := by
  obtain ⟨p, h1, h2⟩ := h
  refine ⟨p, h1, ?_⟩
  rcases h2 with (h | ⟨o, h⟩) | h
  · exact .inl (.inl (k _ _ (fun _ z => by cases z) (fun _ z => by cases z) (fun _ _ _ z => by cases z) h))
  · exact .inl (.inr ⟨o, k _ _ (fun _ z => by cases z) (fun _ z => by cases z) (fun _ _ _ z => by cases z) h⟩)
  · exact .inr h
/-- a new object, and what its __init__ left -/
theorem same_made {H : Hp} {dx p : Addr} {u o : HO} (ndx : H dx = none) (np : H p = none) : Same H (upd (upd H dx u) p o) := fun b x e => by
  rw [upd_ne (ne_of_none e np), upd_ne (ne_of_none e ndx)]
  exact e
theorem same_ofKd {H H1 H' : Hp} {p : Addr} (s : Same H H1) (np : H p = none) (k : Kd p H1 H') : Same H H' := fun b o e => k b o (ne_of_none e np) (s b o e)
theorem cutS_to (z : Str) (k : Nat) : (cutS z none (some (k : Int))).cps.toList = z.cps.toList.take k := by
  have hl : z.cps.toList.length = z.length := Array.length_toList ..
  unfold cutS
  rw [HT.sIx_none, HT.sIx_nat]
  show (((z.cps.toList.drop 0).take (min k z.length - 0)).toArray).toList = _
  rw [List.drop_zero, Nat.sub_zero]
  by_cases h : k ≤ z.length
  · rw [Nat.min_eq_left h]
  · rw [Nat.min_eq_right (by omega), List.take_of_length_le (by omega : z.cps.toList.length ≤ z.length), List.take_of_length_le (by omega : z.cps.toList.length ≤ k)]
theorem cutS_from (z : Str) (k : Nat) : (cutS z (some (k : Int)) none).cps.toList = z.cps.toList.drop k := by
  have hl : z.cps.toList.length = z.length := Array.length_toList ..
  unfold cutS
  rw [HT.sIx_none, HT.sIx_nat]
  show (((z.cps.toList.drop (min k z.length)).take (z.length - min k z.length)).toArray).toList = _
  by_cases h : k ≤ z.length
  · rw [Nat.min_eq_left h, List.take_of_length_le (by rw [List.length_drop]; omega)]
  · rw [Nat.min_eq_right (by omega : z.length ≤ k), List.drop_of_length_le (by omega : z.cps.toList.length ≤ k), List.drop_of_length_le (by omega : z.cps.toList.length ≤ z.length)]
    simp
theorem str_ext {x y : Str} (h : x.cps.toList = y.cps.toList) : x = y := Str.ext' (Array.toList_inj.mp h)
end Lw
namespace Lw
open PySem PySem.Spec L2 Lx
theorem scSpr : FnScope ["bag", "run_now", "row", "rest", "spot", "way"] ["bag", "run_now"] (defScope sLSpoiltRun) := ⟨rfl, rfl, rfl, by decide +kernel, rfl, by decide +kernel, by decide +kernel⟩
theorem scFau : FnScope ["run_now", "row", "spot"] ["run_now"] (defScope sLRunFault) := ⟨rfl, rfl, rfl, by decide +kernel, rfl, by decide +kernel, by decide +kernel⟩
theorem scSpf : FnScope ["bag", "shape", "way", "odd"] ["bag", "shape"] (defScope sLSpoiltForm) := ⟨rfl, rfl, rfl, by decide +kernel, rfl, by decide +kernel, by decide +kernel⟩
theorem scLif : FnScope ["shape"] ["shape"] (defScope sLIsForm) := ⟨rfl, rfl, rfl, by decide +kernel, rfl, by decide +kernel, by decide +kernel⟩
structure SrF (mg : Str → Option Value) : Prop where
  range : mg "range" = none
  len : mg "len" = none
  list : mg "list" = none
  min : mg "min" = none
theorem tab_get (wd : Str) : valV (mergeK [] [((.inr "keep" : Key), V.int 3), (.inr "lf", .int 5), (.inr "cr", .int 4)]) (.inr wd) = (kindLen wd).map fun n : Nat => V.int n := by
  show valV [((.inr "keep" : Key), V.int 3), (.inr "lf", .int 5), (.inr "cr", .int 4)] (.inr wd) = _
  unfold kindLen
  by_cases c1 : wd = "keep"
  · subst c1; rfl
  · rw [if_neg c1, valV_neg fun q => c1 (Sum.inr.inj q).symm]
    by_cases c2 : wd = "lf"
    · subst c2; rfl
    · rw [if_neg c2, valV_neg fun q => c2 (Sum.inr.inj q).symm]
      by_cases c3 : wd = "cr"
      · subst c3; rfl
      · rw [if_neg c3, valV_neg fun q => c3 (Sum.inr.inj q).symm]
        rfl
def spSpr (K : PySem.W.Frag) : Sp := fun vs H Q _ => ∃ (r gl : Addr) (n : Nat) (x : V) (l : Addr) (g : List (Int × Int) × Int), vs = [.ref r, x] ∧ BagAt H r gl n ∧ n < 900000000 ∧ RnS K H x l g ∧ l ≠ r ∧ l ≠ gl ∧ RnOk 111 g ∧ g.1.length ≤ 100 ∧
  ∀ (v : V) (g' : List (Int × Int) × Int) (H' : Hp), NewRn K H H' v g' → (∀ x ∈ g'.1, Sm 111 x.1 ∧ Sm 111 x.2) → Sm 111 g'.2 → g'.1.length ≤ 100 → BagAt H' r gl (n + 110) → Kb r gl H H' → Q v H'
def spFau (K : PySem.W.Frag) : Sp := fun vs H Q _ => ∃ (x : V) (l : Addr) (g : List (Int × Int) × Int), vs = [x] ∧ RnS K H x l g ∧ g.1.length ≤ 1000 ∧ (faultR g = none → ∀ H', Same H H' → Q .non H') ∧ ∀ v, faultR g = some v → ∀ (H' : Hp) (q : Addr), Same H H' → H' q = some (.tup [.str "run", v]) → Q (.ref q) H'
def spSpf : Sp := fun vs H Q _ => ∃ (r gl : Addr) (n : Nat) (p : Addr) (f : Fm), vs = [.ref r, .ref p] ∧ BagAt H r gl n ∧ n < 900000000 ∧ H p = some (.tup f.vs) ∧ f.Ok 111 ∧ (∀ x ∈ f.nums, x ≤ 100000) ∧
  ∀ (t : Addr) (wd : Str) (ns : List Int) (H' : Hp), H' t = some (.tup (tpV (some (wd, ns)))) → TpOk Ws32 (some (wd, ns)) → (∀ x ∈ ns, Sm 111 x ∧ x ≤ 100000) → 1 ≤ ns.length → BagAt H' r gl (n + 1) → Kb r gl H H' → Q (.ref t) H'
def spLif : Sp := fun vs H Q _ => ∃ (t : Addr) (wd : Str) (ns : List Int), vs = [.ref t] ∧ H t = some (.tup (tpV (some (wd, ns)))) ∧ ∀ H', Same H H' → Q (.bl (isFB (some (wd, ns)))) H'
theorem Prs.set {K : PySem.W.Frag} {H : Hp} : ∀ {vs : List V} {gs : List (Int × Int)}, Prs K H vs gs → ∀ {v : V} {y : Int × Int} (i : Nat), PrAt H v y → Prs K H (vs.set i v) (gs.set i y)
  | _, _, .nil, _, _, _, _ => .nil
  | _, _, .cons _ t, _, _, 0, h => .cons h t
  | _, _, .cons a t, _, _, i + 1, h => .cons a (Prs.set t i h)
theorem ixN_at {n j : Nat} (hj : j < n) : ixN n (j : Int) = some j := by
  unfold ixN
  rw [if_pos (by omega), if_pos (by omega)]
  simp
theorem catA_any {K : PySem.W.Frag} {H : Hp} {a b : Addr} {xs ys : List V} {Q : VK} (ha : H a = some (.tup xs)) (hb : SqT K H b ys) (hx : xs ≠ []) (hz : xs.length + ys.length ≤ sizeLine) (q : ∀ (H' : Hp) (p : Addr), Same H H' → H' p = some (.tup (xs ++ ys)) → Q (.ref p) H') : rCatA K (.ref a) (.ref b) H Q :=
  ⟨a, b, xs, ys, rfl, rfl, .inl (.inl ha), hb, hz, fun e => absurd e hx, fun _ e => q H a (Same.refl _) (by rw [e, List.append_nil]; exact ha), fun _ _ p np => q _ p (same_upd np) upd_same⟩
theorem ten20 : Sm 111 (0 - (10 : Int) ^ (20 : Int).toNat) := by
  unfold Sm
  decide +kernel
section
variable {P : Program} {w : World} {K : PySem.W.Frag} {mg : Str → Option Value} {base : Heap}
theorem ok_spr {f aD : Addr} {fd dD : FuncData} {k : Nat} (F : Fun K "_law_spoilt_run" "_law_spoilt_run" sLSpoiltRun f fd) (Z : SrF mg)
    (cD : Cl P w K mg base k "_law_draw" ["bag", "many"] spDraw aD dD) : FnOk P w K mg base CX0 (k + 1) f fd ["bag", "run_now"] (spSpr K) := by
  refine F.ok scSpr (fun vs H Q E h => ?_) (fun cdv A outer s H vs Q E hr h => ?_)
  · obtain ⟨r, gl, n, x, l, g, rfl, _⟩ := h
    rfl
  · obtain ⟨r, gl, n, _, l, g, rfl, hB, hn, ⟨p, xs, rfl, hp, hl, hP⟩, hlr, hlg, ho, hgl, q⟩ := h
    refine ⟨_, (pss_cons (ps_par (i := 2) (j := 3) rfl scSpr.nd rfl rfl (by decide) rfl rfl (pa_cons (pe_callTy call_list_of (by rfl) Z.list (by decide +kernel) (pa_cons (pe_ix ix_tup (pv 1) pe_int (fun _ _ => rfl)) pa_nil)) (pa_cons (pe_ix ix_tup (pv 1) pe_int (fun _ _ => rfl)) pa_nil)) rfl)
      (pss_cons (ps_for PassesOwn.never rfl (pi_range1 rfl Z.range (pa_cons (pe_callB call_len_seq (by rfl) Z.len PySem.boot_len (pa_cons (pv 2) pa_nil)) pa_nil)) (pg_name (i := 4) scSpr.nd rfl (.inl rfl))
          (pss_cons (ps_set (i := 5) scSpr.nd rfl (.inl rfl) (pe_call cD.G hr (by rfl) cD.g cD.kp cD.b .nil pass0 (pa_cons (pv 0) (pa_cons pe_int pa_nil))))
          (pss_cons (ps_if (pt_cmpR op_lt (pv 5) pe_int (nomark _))
              (pss_one (ps_asg (pe_ix ix_tup (pe_tup (pa_cons (pe_tup (pa_cons pe_int (pa_cons (pe_ix ix_tup (pe_ix ix_list (pv 2) (pv 4) (fun _ _ => rfl)) pe_int (fun _ _ => rfl)) pa_nil))) (pa_cons (pe_tup (pa_cons (pe_ix ix_tup (pe_ix ix_list (pv 2) (pv 4) (fun _ _ => rfl)) pe_int (fun _ _ => rfl)) (pa_cons (pe_un un_neg pe_int) pa_nil))) (pa_cons (pe_tup (pa_cons (pe_op op_sub pe_int (pe_op op_pow pe_int pe_int)) (pa_cons pe_int pa_nil))) (pa_cons (pe_tup (pa_cons pe_int (pa_cons (pe_op op_sub pe_int (pe_op op_pow pe_int pe_int)) pa_nil))) pa_nil))))) (pv 5) (fun _ _ => rfl)) (pg_sub (pv 2) (pv 4) set_list))) pss_nil)
          (pss_one (ps_if (PW.pt (pw_and (pt_cmpR op_eq (pv 5) pe_int (nomark _)) (pw_and1 (pt_cmpR op_gt (pv 4) pe_int (nomark _)))))
              (pss_one (ps_asg (pe_tup (pa_cons (pe_ix ix_tup (pe_ix ix_list (pv 2) (pv 4) (fun _ _ => rfl)) pe_int (fun _ _ => rfl)) (pa_cons (pe_ix ix_tup (pe_ix ix_list (pv 2) (pe_op op_sub (pv 4) pe_int) (fun _ _ => rfl)) pe_int (fun _ _ => rfl)) pa_nil))) (pg_sub (pv 2) (pv 4) set_list))) pss_nil)))))
      (pss_one (ps_ret (pe_tup (pa_cons (pv 2) (pa_cons (pe_ix ix_tup (pe_tup (pa_cons (pv 3) (pa_cons (pv 3) (pa_cons (pv 3) (pa_cons (pe_un un_neg pe_int) (pa_cons (pe_op op_sub pe_int (pe_op op_pow pe_int pe_int)) pa_nil)))))) (pe_call cD.G hr (by rfl) cD.g cD.kp cD.b .nil pass0 (pa_cons (pv 0) (pa_cons pe_int pa_nil))) (fun _ _ => rfl)) pa_nil))))))), ?_⟩
    refine ⟨_, rfl, p, _, 0, _, rfl, rfl, .inl (.inl hp), atI_nat (j := 0) rfl, l, xs, rfl, .inl (.inl (.inl hl)), fun l2 n2 => ?_⟩
    have s2 := same_upd (o := .lst xs) n2
    have hl2 : upd H l2 (.lst xs) l2 = _ := upd_same
    have hB2 := hB.same s2
    have hne := hB.ne n2
    generalize upd H l2 (.lst xs) = H2 at s2 hl2 hB2
    refine ⟨_, rfl, p, _, 1, _, rfl, rfl, .inl (.inl (s2 _ _ hp)), atI_nat (j := 1) rfl, _, _, rfl, ?_⟩
    dsimp only [gName, tNext, tSeq]
    have hxl := hP.len
    refine ⟨_, rfl, l2, xs, rfl, .inl (.inl (.inl hl2)), _, rfl, by omega, by omega, ?_⟩
    rw [Int.toNat_natCast]
    refine for_range (lo := 0) (n := xs.length) (fun i σ H' => ∃ y4 y5 ws gs, σ = [some (.ref r), some (.ref p), some (.ref l2), some (.int g.2), y4, y5] ∧ BagAt H' r gl (n + i) ∧ Kb r gl H H' ∧ H' l2 = some (.lst ws) ∧ Prs K H' ws gs ∧ gs.length = g.1.length ∧ ∀ x ∈ gs, Sm 111 x.1 ∧ Sm 111 x.2)
      ⟨_, _, xs, g.1, rfl, hB2, Kb.of s2, hl2, hP.same s2, rfl, fun x hx => by
        obtain ⟨j, hj⟩ := List.mem_iff_getElem?.mp hx
        have := ho.gs j x hj
        exact ⟨this.2.2.1, this.2.2.2.1⟩⟩ ?_ ?_
    · rintro i σ H3 hi ⟨y4, y5, ws, gs, rfl, hB3, k3, hl3, hP3, hgl3, hbd⟩
      have e0 : (0 : Int) + (i : Int) = (i : Int) := Int.zero_add _
      show gName 4 (V.int (0 + (i : Int))) _ _ _
      rw [e0]
      dsimp only [gName, tNext, tSeq]
      refine ⟨_, rfl, r, gl, _, 12, rfl, hB3, by omega, by decide, by decide, fun way H4 way0 way1 hB4 k4 => ?_⟩
      have hl4 : H4 l2 = some (.lst ws) := k4 _ _ hne.1 hne.2 hl3
      have hP4 := Prs.kb hB3 k4 hP3
      have hwl := hP4.len
      have hiw : i < ws.length := by omega
      have hvi := List.getElem?_eq_getElem hiw
      generalize ws[i] = v at hvi
      obtain ⟨x, hx, q0, rfl, hq0⟩ := hP4.get hvi
      have hxb := hbd x (List.mem_of_getElem? hx)
      refine ⟨_, rfl, _, _, rfl, rfl, _, rfl, ?_⟩
      have fin : ∀ (ws' : List V) (gs' : List (Int × Int)) (H' : Hp) (y4 y5 : Option V), BagAt H' r gl (n + i + 1) → Kb r gl H H' → H' l2 = some (.lst ws') → Prs K H' ws' gs' → gs'.length = g.1.length → (∀ x ∈ gs', Sm 111 x.1 ∧ Sm 111 x.2) → ∃ y4' y5' ws gs, ([some (V.ref r), some (V.ref p), some (V.ref l2), some (V.int g.2), y4, y5] : St) = [some (.ref r), some (.ref p), some (.ref l2), some (.int g.2), y4', y5'] ∧ BagAt H' r gl (n + (i + 1)) ∧ Kb r gl H H' ∧ H' l2 = some (.lst ws) ∧ Prs K H' ws gs ∧ gs.length = g.1.length ∧ ∀ x ∈ gs, Sm 111 x.1 ∧ Sm 111 x.2 := fun ws' gs' H' y4 y5 h1 h2 h3 h4 h5 h6 => ⟨_, _, ws', gs', rfl, h1.mono (by omega), h2, h3, h4, h5, h6⟩
      have k04 : Kb r gl H H4 := k3.trans k4
      have put : ∀ (H8 : Hp) (tn : Addr) (y : Int × Int) (y4 y5 : Option V), Same H4 H8 → H8 tn = some (.tup [.int y.1, .int y.2]) → Sm 111 y.1 ∧ Sm 111 y.2 → ∃ y4' y5' ws' gs, ([some (V.ref r), some (V.ref p), some (V.ref l2), some (V.int g.2), y4, y5] : St) = [some (.ref r), some (.ref p), some (.ref l2), some (.int g.2), y4', y5'] ∧ BagAt (upd H8 l2 (.lst (ws.set i (.ref tn)))) r gl (n + (i + 1)) ∧ Kb r gl H (upd H8 l2 (.lst (ws.set i (.ref tn)))) ∧ upd H8 l2 (.lst (ws.set i (.ref tn))) l2 = some (.lst ws') ∧ Prs K (upd H8 l2 (.lst (ws.set i (.ref tn)))) ws' gs ∧ gs.length = g.1.length ∧ ∀ x ∈ gs, Sm 111 x.1 ∧ Sm 111 x.2 := fun H8 tn y y4 y5 s8 ht hy => by
        refine fin (ws.set i (.ref tn)) (gs.set i y) _ y4 y5 ((hB4.same s8).own hne) (fun b o h1 h2 hb => ?_) upd_same (Prs.lstUpd (s8 _ _ hl4) (Prs.set (hP4.same s8) i ⟨tn, rfl, ht⟩)) (by rw [List.length_set]; exact hgl3) (fun z hz => ?_)
        · rw [upd_ne (fun e => by rw [e, n2] at hb; cases hb)]
          exact s8 _ _ (k04 b o h1 h2 hb)
        · rcases List.mem_or_eq_of_mem_set hz with h | h
          · exact hbd z h
          · rw [h]; exact hy
      have sm0 : Sm 111 0 := Nat.two_pow_pos 111
      have smk : ∀ z : Int, z.natAbs ≤ 5 → Sm 111 z := fun z hz => by
        have : (5 : Nat) < 2 ^ 111 := by decide
        exact Nat.lt_of_le_of_lt hz this
      by_cases hw4 : way < 4
      · rw [decide_eq_true hw4]
        refine iteT ?_
        refine ⟨_, rfl, _, rfl, l2, ws, (i : Int), _, rfl, rfl, .inl (.inl hl4), atI_nat hvi, q0, _, 1, _, rfl, rfl, .inl (.inl hq0), atI_nat (j := 1) rfl, by show 2 ≤ sizeLine; decide, fun t0 nt0 => ?_⟩
        have st0 := same_upd (o := .tup [.int 0, .int x.2]) nt0
        have ht0 : upd H4 t0 (.tup [.int 0, .int x.2]) t0 = _ := upd_same
        generalize upd H4 t0 (.tup [.int 0, .int x.2]) = H5 at st0 ht0
        refine ⟨_, rfl, _, rfl, l2, ws, (i : Int), _, rfl, rfl, .inl (.inl (st0 _ _ hl4)), atI_nat hvi, q0, _, 0, _, rfl, rfl, .inl (.inl (st0 _ _ hq0)), atI_nat (j := 0) rfl, (1 : Int), rfl, by show 2 ≤ sizeLine; decide, fun t1 nt1 => ?_⟩
        have st1 := same_upd (o := .tup [.int x.1, .int (-1)]) nt1
        have ht1 : upd H5 t1 (.tup [.int x.1, .int (-1)]) t1 = _ := upd_same
        generalize upd H5 t1 (.tup [.int x.1, .int (-1)]) = H6 at st1 ht1
        refine ⟨_, _, rfl, rfl, ⟨by decide, by decide, by decide⟩, _, _, rfl, rfl, by show 2 ≤ sizeLine; decide, fun t2 nt2 => ?_⟩
        have st2 := same_upd (o := .tup [.int (0 - (10 : Int) ^ (20 : Int).toNat), .int 2]) nt2
        have ht2 : upd H6 t2 (.tup [.int (0 - (10 : Int) ^ (20 : Int).toNat), .int 2]) t2 = _ := upd_same
        generalize upd H6 t2 (.tup [.int (0 - (10 : Int) ^ (20 : Int).toNat), .int 2]) = H7 at st2 ht2
        refine ⟨_, _, rfl, rfl, ⟨by decide, by decide, by decide⟩, _, _, rfl, rfl, by show 2 ≤ sizeLine; decide, fun t3 nt3 => ?_⟩
        have st3 := same_upd (o := .tup [.int 1, .int (0 - (10 : Int) ^ (20 : Int).toNat)]) nt3
        have ht3 : upd H7 t3 (.tup [.int 1, .int (0 - (10 : Int) ^ (20 : Int).toNat)]) t3 = _ := upd_same
        generalize upd H7 t3 (.tup [.int 1, .int (0 - (10 : Int) ^ (20 : Int).toNat)]) = H8 at st3 ht3
        refine ⟨by show 4 ≤ sizeLine; decide, fun tt ntt => ?_⟩
        have st4 := same_upd (o := .tup [.ref t0, .ref t1, .ref t2, .ref t3]) ntt
        have htt : upd H8 tt (.tup [.ref t0, .ref t1, .ref t2, .ref t3]) tt = _ := upd_same
        generalize upd H8 tt (.tup [.ref t0, .ref t1, .ref t2, .ref t3]) = H9 at st4 htt
        obtain ⟨tn, y, hat, hty, hyb⟩ : ∃ (tn : Addr) (y : Int × Int), atI [V.ref t0, .ref t1, .ref t2, .ref t3] way = some (.ref tn) ∧ H9 tn = some (.tup [.int y.1, .int y.2]) ∧ Sm 111 y.1 ∧ Sm 111 y.2 := by
          rcases (by omega : way = 0 ∨ way = 1 ∨ way = 2 ∨ way = 3) with rfl | rfl | rfl | rfl
          · exact ⟨t0, (0, x.2), rfl, st4 _ _ (st3 _ _ (st2 _ _ (st1 _ _ ht0))), sm0, hxb.2⟩
          · exact ⟨t1, (x.1, -1), rfl, st4 _ _ (st3 _ _ (st2 _ _ ht1)), hxb.1, smk (-1) (by decide)⟩
          · exact ⟨t2, (_, 2), rfl, st4 _ _ (st3 _ _ ht2), ten20, smk 2 (by decide)⟩
          · exact ⟨t3, (1, _), rfl, st4 _ _ ht3, smk 1 (by decide), ten20⟩
        have s9 := ((st0.trans st1).trans (st2.trans st3)).trans st4
        refine ⟨_, rfl, tt, _, way, _, rfl, rfl, .inl (.inl htt), hat, _, rfl, _, rfl, l2, ws, (i : Int), i, rfl, rfl, s9 _ _ hl4, ixN_at hiw, ?_⟩
        dsimp only [gName, tNext, tSeq]
        refine ⟨_, rfl, rfl, _, rfl, ?_⟩
        rw [decide_eq_false (show ¬ V.int way = V.int 4 from fun z => by have := V.int.inj z; omega)]
        refine iteF ?_
        exact put H9 tn y _ _ s9 hty hyb
      · rw [decide_eq_false hw4]
        refine iteF ?_
        dsimp only [gName, tNext, tSeq]
        have skip := fin ws gs H4 (some (.int (i : Int))) (some (.int way)) hB4 k04 hl4 hP4 hgl3 hbd
        refine ⟨_, rfl, rfl, _, rfl, ?_⟩
        by_cases hw : way = 4
        · rw [decide_eq_true (show V.int way = V.int 4 from congrArg V.int hw)]
          refine iteT ⟨_, rfl, _, _, rfl, rfl, _, rfl, ?_⟩
          by_cases hi0 : (0 : Int) < (i : Int)
          · rw [show decide ((i : Int) > 0) = true from decide_eq_true hi0]
            refine iteT ?_
            have hi1 : i - 1 < ws.length := by omega
            have hv2 := List.getElem?_eq_getElem hi1
            generalize ws[i - 1] = v2 at hv2
            obtain ⟨x2, hx2, q2, rfl, hq2⟩ := hP4.get hv2
            have hxb2 := hbd x2 (List.mem_of_getElem? hx2)
            refine ⟨_, rfl, _, rfl, l2, ws, (i : Int), _, rfl, rfl, .inl (.inl hl4), atI_nat hvi, q0, _, 0, _, rfl, rfl, .inl (.inl hq0), atI_nat (j := 0) rfl, ?_⟩
            refine ⟨_, rfl, _, rfl, _, _, rfl, rfl, l2, ws, _, _, rfl, rfl, .inl (.inl hl4), (by rw [show (i : Int) - 1 = ((i - 1 : Nat) : Int) by omega]; exact atI_nat hv2), q2, _, 1, _, rfl, rfl, .inl (.inl hq2), atI_nat (j := 1) rfl, by show 2 ≤ sizeLine; decide, fun tn ntn => ?_⟩
            have st := same_upd (o := .tup [.int x.1, .int x2.2]) ntn
            have htn : upd H4 tn (.tup [.int x.1, .int x2.2]) tn = _ := upd_same
            generalize upd H4 tn (.tup [.int x.1, .int x2.2]) = H5 at st htn
            refine ⟨_, rfl, _, rfl, l2, ws, (i : Int), i, rfl, rfl, st _ _ hl4, ixN_at hiw, ?_⟩
            exact put H5 tn (x.1, x2.2) _ _ st htn ⟨hxb.1, hxb2.2⟩
          · rw [show decide ((i : Int) > 0) = false from decide_eq_false hi0]
            exact iteF skip
        · rw [decide_eq_false (show ¬ V.int way = V.int 4 from fun z => hw (V.int.inj z))]
          exact iteF skip
    · rintro σ H3 ⟨y4, y5, ws, gs, rfl, hB3, k3, hl3, hP3, hgl3, hbd⟩
      dsimp only [gName, tNext, tSeq]
      refine ⟨_, rfl, _, rfl, _, rfl, _, rfl, (1 : Int), rfl, _, _, rfl, rfl, ⟨by decide, by decide, by decide⟩, _, _, rfl, rfl, by show 5 ≤ sizeLine; decide, fun tt ntt => ?_⟩
      have st := same_upd (o := .tup [.int g.2, .int g.2, .int g.2, .int (-1), .int (0 - (10 : Int) ^ (20 : Int).toNat)]) ntt
      have htt : upd H3 tt (.tup [.int g.2, .int g.2, .int g.2, .int (-1), .int (0 - (10 : Int) ^ (20 : Int).toNat)]) tt = _ := upd_same
      have hB4 := hB3.same st
      have htr := hB3.ne ntt
      generalize upd H3 tt (.tup [.int g.2, .int g.2, .int g.2, .int (-1), .int (0 - (10 : Int) ^ (20 : Int).toNat)]) = H4 at st htt hB4
      refine ⟨_, rfl, r, gl, _, 5, rfl, hB4, by omega, by decide, by decide, fun w5 H5 w50 w51 hB5 k5 => ?_⟩
      obtain ⟨z, hz, hzb⟩ : ∃ z : Int, atI [V.int g.2, .int g.2, .int g.2, .int (-1), .int (0 - (10 : Int) ^ (20 : Int).toNat)] w5 = some (.int z) ∧ Sm 111 z := by
        rcases (by omega : w5 = 0 ∨ w5 = 1 ∨ w5 = 2 ∨ w5 = 3 ∨ w5 = 4) with rfl | rfl | rfl | rfl | rfl
        · exact ⟨_, rfl, ho.rest.2⟩
        · exact ⟨_, rfl, ho.rest.2⟩
        · exact ⟨_, rfl, ho.rest.2⟩
        · exact ⟨_, rfl, Nat.lt_of_le_of_lt (show (-1 : Int).natAbs ≤ 1 by decide) (by decide)⟩
        · exact ⟨_, rfl, ten20⟩
      refine ⟨tt, _, w5, _, rfl, rfl, .inl (.inl (k5 _ _ htr.1 htr.2 htt)), hz, by show 2 ≤ sizeLine; decide, fun v nv => ?_⟩
      have sv := same_upd (o := .tup [.ref l2, .int z]) nv
      have hv : upd H5 v (.tup [.ref l2, .int z]) v = _ := upd_same
      have k35 : Kb r gl H3 H5 := (Kb.of st).trans k5
      have hB6 := hB5.same sv
      generalize upd H5 v (.tup [.ref l2, .int z]) = H6 at sv hv hB6
      have k06 := (k3.trans k35).trans (Kb.of sv)
      have hvn : H v = none := by
        cases e : H v with
        | none => rfl
        | some o =>
          have hvb := hB5.ne nv
          have := (k3.trans k35) v o hvb.1 hvb.2 e
          rw [nv] at this; cases this
      exact q (.ref v) (gs, z) H6 ⟨v, l2, ws, rfl, hvn, n2, hv, sv _ _ (k35 _ _ hne.1 hne.2 hl3), (Prs.kb hB3 k35 hP3).same sv⟩ hbd hzb (by show gs.length ≤ 100; omega) (hB6.mono (by omega)) k06
theorem ok_fau {f : Addr} {fd : FuncData} {k : Nat} (F : Fun K "_law_run_fault" "_law_run_fault" sLRunFault f fd) (Z : SrF mg) : FnOk P w K mg base CX0 (k + 1) f fd ["run_now"] (spFau K) := by
  refine F.ok scFau (fun vs H Q E h => ?_) (fun cdv A outer s H vs Q E hr h => ?_)
  · obtain ⟨x, l, g, rfl, _⟩ := h
    rfl
  · obtain ⟨_, l, g, rfl, ⟨p, xs, rfl, hp, hl, hP⟩, hgl, qn, qs⟩ := h
    refine ⟨_, (pss_cons (ps_set (i := 1) scFau.nd rfl (.inl rfl) (pe_ix ix_tup (pv 0) pe_int (fun _ _ => rfl)))
      (pss_cons (ps_for PassesOwn.never rfl (pi_range1 rfl Z.range (pa_cons (pe_callB call_len_seq (by rfl) Z.len PySem.boot_len (pa_cons (pv 1) pa_nil)) pa_nil)) (pg_name (i := 2) scFau.nd rfl (.inl rfl))
          (pss_one (ps_if (PW.pt (pw_or (pt_cmpR op_lt (pe_ix ix_tup (pe_ix ix_list (pv 1) (pv 2) (fun _ _ => rfl)) pe_int (fun _ _ => rfl)) pe_int (nomark _)) (pw_or (pt_cmpR op_lt (pe_ix ix_tup (pe_ix ix_list (pv 1) (pv 2) (fun _ _ => rfl)) pe_int (fun _ _ => rfl)) pe_int (nomark _)) (pw_or1 (PW.pt (pw_and (pt_cmpR op_gt (pv 2) pe_int (nomark _)) (pw_and1 (pt_cmpR op_eq (pe_ix ix_tup (pe_ix ix_list (pv 1) (pv 2) (fun _ _ => rfl)) pe_int (fun _ _ => rfl)) (pe_ix ix_tup (pe_ix ix_list (pv 1) (pe_op op_sub (pv 2) pe_int) (fun _ _ => rfl)) pe_int (fun _ _ => rfl)) (nomark _)))))))))
              (pss_one (ps_ret (pe_tup (pa_cons pe_str (pa_cons (pv 2) pa_nil))))) pss_nil)))
      (pss_cons (ps_if (pt_cmpR op_lt (pe_ix ix_tup (pv 0) pe_int (fun _ _ => rfl)) pe_int (nomark _))
          (pss_one (ps_ret (pe_tup (pa_cons pe_str (pa_cons pe_non pa_nil))))) pss_nil)
      (pss_one (ps_ret pe_non))))), ?_⟩
    have hxl := hP.len
    refine ⟨_, rfl, p, _, 0, _, rfl, rfl, .inl (.inl hp), atI_nat (j := 0) rfl, ?_⟩
    dsimp only [gName, tNext, tSeq]
    refine ⟨_, rfl, l, xs, rfl, .inl (.inl (.inl hl)), _, rfl, by omega, by omega, ?_⟩
    rw [Int.toNat_natCast]
    refine for_range (lo := 0) (n := xs.length) (fun i σ H' => ∃ y2, σ = [some (.ref p), some (.ref l), y2] ∧ H' = H ∧ faultG none 0 g.1 = faultG (if i = 0 then none else (g.1[i - 1]?).map (·.2)) i (g.1.drop i)) ⟨_, rfl, rfl, rfl⟩ ?_ ?_
    · rintro i σ H1 hi ⟨y2, rfl, rfl, hf⟩
      have e0 : (0 : Int) + (i : Int) = (i : Int) := Int.zero_add _
      show gName 2 (V.int (0 + (i : Int))) _ _ _
      rw [e0]
      dsimp only [gName, tNext, tSeq]
      have hvi := List.getElem?_eq_getElem hi
      generalize xs[i] = v at hvi
      obtain ⟨x, hx, q0, rfl, hq0⟩ := hP.get hvi
      have hdr : g.1.drop i = x :: g.1.drop (i + 1) := by
        have hlt := (List.getElem?_eq_some_iff.mp hx).1
        rw [List.drop_eq_getElem_cons hlt, (List.getElem?_eq_some_iff.mp hx).2]
      rw [hdr] at hf
      generalize hb : (if i = 0 then none else (g.1[i - 1]?).map (·.2)) = b at hf
      replace hf : faultG none 0 g.1 = if badG b x = true then some i else faultG (some x.2) (i + 1) (g.1.drop (i + 1)) := hf
      have err : badG b x = true → 2 ≤ sizeLine ∧ ∀ t, H1 t = none → Q (.ref t) (upd H1 t (.tup [.str "run", .int (i : Int)])) := fun hbx => by
        rw [if_pos hbx] at hf
        have hfr : faultR g = some (.int (i : Nat)) := by unfold faultR; rw [hf]
        exact ⟨by show 2 ≤ sizeLine; decide, fun t nt => qs _ hfr _ t (same_upd nt) upd_same⟩
      have nxt : badG b x ≠ true → ∃ y2', ([some (V.ref p), some (V.ref l), some (V.int (i : Int))] : St) = [some (.ref p), some (.ref l), y2'] ∧ H1 = H1 ∧ faultG none 0 g.1 = faultG (if i + 1 = 0 then none else (g.1[i + 1 - 1]?).map (·.2)) (i + 1) (g.1.drop (i + 1)) := fun hbx => by
        rw [if_neg hbx] at hf
        refine ⟨_, rfl, rfl, ?_⟩
        rw [if_neg (by omega), show i + 1 - 1 = i by omega, hx]
        exact hf
      refine ⟨_, rfl, _, rfl, l, xs, (i : Int), _, rfl, rfl, .inl (.inl hl), atI_nat hvi, q0, _, 0, _, rfl, rfl, .inl (.inl hq0), atI_nat (j := 0) rfl, _, _, rfl, rfl, _, rfl, ?_⟩
      by_cases c1 : x.1 < 1
      · rw [decide_eq_true c1]
        exact iteT ⟨_, rfl, err (by unfold badG; rw [decide_eq_true c1]; rfl)⟩
      · rw [decide_eq_false c1]
        refine iteF ⟨_, rfl, _, rfl, l, xs, (i : Int), _, rfl, rfl, .inl (.inl hl), atI_nat hvi, q0, _, 1, _, rfl, rfl, .inl (.inl hq0), atI_nat (j := 1) rfl, _, _, rfl, rfl, _, rfl, ?_⟩
        by_cases c2 : x.2 < 0
        · rw [decide_eq_true c2]
          exact iteT ⟨_, rfl, err (by unfold badG; rw [decide_eq_true c2, Bool.or_true]; rfl)⟩
        · rw [decide_eq_false c2]
          have hnb : some x.2 ≠ b → badG b x ≠ true := fun h => by
            unfold badG
            rw [decide_eq_false c1, decide_eq_false c2, decide_eq_false h]
            decide
          refine iteF ⟨_, rfl, _, _, rfl, rfl, _, rfl, ?_⟩
          by_cases hi0 : (0 : Int) < (i : Int)
          · rw [show decide ((i : Int) > 0) = true from decide_eq_true hi0]
            have hi1 : i - 1 < xs.length := by omega
            have hv2 := List.getElem?_eq_getElem hi1
            generalize xs[i - 1] = v2 at hv2
            obtain ⟨x2, hx2, q2, rfl, hq2⟩ := hP.get hv2
            rw [if_neg (by omega), hx2] at hb
            replace hb : some x2.2 = b := hb
            refine iteT ⟨_, rfl, _, rfl, l, xs, (i : Int), _, rfl, rfl, .inl (.inl hl), atI_nat hvi, q0, _, 1, _, rfl, rfl, .inl (.inl hq0), atI_nat (j := 1) rfl, ?_⟩
            refine ⟨_, rfl, _, rfl, _, _, rfl, rfl, l, xs, _, _, rfl, rfl, .inl (.inl hl), (by rw [show (i : Int) - 1 = ((i - 1 : Nat) : Int) by omega]; exact atI_nat hv2), q2, _, 1, _, rfl, rfl, .inl (.inl hq2), atI_nat (j := 1) rfl, rfl, _, rfl, ?_⟩
            by_cases c3 : V.int x.2 = V.int x2.2
            · rw [decide_eq_true c3]
              exact iteT ⟨_, rfl, err (by unfold badG; rw [decide_eq_true (by rw [← hb, V.int.inj c3] : some x.2 = b), Bool.or_true])⟩
            · rw [decide_eq_false c3]
              exact iteF (nxt (hnb fun z => c3 (by rw [← hb] at z; rw [Option.some.inj z])))
          · rw [show decide ((i : Int) > 0) = false from decide_eq_false hi0]
            rw [if_pos (by omega)] at hb
            exact iteF (nxt (hnb fun z => by rw [← hb] at z; cases z))
    · rintro σ H1 ⟨y2, rfl, rfl, hf⟩
      dsimp only [gName, tNext, tSeq]
      rw [List.drop_of_length_le (by omega)] at hf
      replace hf : faultG none 0 g.1 = none := hf
      refine ⟨_, rfl, p, _, 1, _, rfl, rfl, .inl (.inl hp), atI_nat (j := 1) rfl, _, _, rfl, rfl, _, rfl, ?_⟩
      by_cases hr0 : g.2 < 0
      · rw [decide_eq_true hr0]
        have hfr : faultR g = some .non := by unfold faultR; rw [hf, if_pos hr0]
        exact iteT ⟨by show 2 ≤ sizeLine; decide, fun t nt => qs _ hfr _ t (same_upd nt) upd_same⟩
      · rw [decide_eq_false hr0]
        have hfr : faultR g = none := by unfold faultR; rw [hf, if_neg hr0]
        exact iteF (qn hfr _ (Same.refl _))
theorem ok_lif {f : Addr} {fd : FuncData} {k : Nat} (F : Fun K "_law_is_form" "_law_is_form" sLIsForm f fd) (Z : SrF mg) : FnOk P w K mg base CX0 (k + 1) f fd ["shape"] spLif := by
  refine F.ok scLif (fun vs H Q E h => ?_) (fun cdv A outer s H vs Q E hr h => ?_)
  · obtain ⟨t, wd, ns, rfl, _⟩ := h
    rfl
  · obtain ⟨t, wd, ns, rfl, ht, q⟩ := h
    refine ⟨_, (pss_cons (ps_if (pt_cmpR op_ne (pe_callB call_len_seq (by rfl) Z.len PySem.boot_len (pa_cons (pv 0) pa_nil)) (pe_dget2 (hu_of hr) (pe_disp (pps_cons pe_str pe_int (pps_cons pe_str pe_int (pps_cons pe_str pe_int pps_nil))) (by rfl) (by rfl) (fun z => by cases z) (by decide)) (pe_ix ix_tup (pv 0) pe_int (fun _ _ => rfl)) pe_int ⟨rfl, rfl, rfl, rfl⟩) (nomark _))
          (pss_one (ps_ret pe_bl)) pss_nil)
      (pss_one (ps_ret (pe_and (pe_cmpR op_ge (pe_callB (call_minT rfl) (by rfl) Z.min (by decide +kernel) (pa_cons (pe_slice sl_tup (pv 0) (po_some pe_int) po_none) pa_nil)) pe_int (nomark _)) (pe_one (pe_or (pe_cmpR op_lt (pe_callB call_len_seq (by rfl) Z.len PySem.boot_len (pa_cons (pv 0) pa_nil)) pe_int (nomark _)) (pe_one (pe_cmpR op_gt (pe_ix ix_tup (pv 0) pe_int (fun _ _ => rfl)) pe_int (nomark _))))))))), ?_⟩
    replace ht : H t = some (.tup (.str wd :: ns.map V.int)) := ht
    have hlen : ((V.str wd :: ns.map V.int).length : Int) = ((ns.length + 1 : Nat) : Int) := by rw [List.length_cons, List.length_map]
    refine ⟨_, rfl, t, _, rfl, .inr (.inl (.inl ht)), ?_⟩
    rw [hlen]
    refine fun d nd => ?_
    refine ⟨upd_same, [(.inr "keep", .int 3), (.inr "lf", .int 5), (.inr "cr", .int 4)], rfl, by decide, ?_⟩
    have s5 : Same H (upd (upd H d (.dK [])) d (.dK (mergeK [] [(.inr "keep", .int 3), (.inr "lf", .int 5), (.inr "cr", .int 4)]))) := Same.own (same_upd nd) nd
    have a5 : upd (upd H d (.dK [])) d (.dK (mergeK [] [(.inr "keep", .int 3), (.inr "lf", .int 5), (.inr "cr", .int 4)])) d = some (.dK (mergeK [] [(.inr "keep", .int 3), (.inr "lf", .int 5), (.inr "cr", .int 4)])) := upd_same
    generalize upd (upd H d (.dK [])) d (.dK (mergeK [] [(.inr "keep", .int 3), (.inr "lf", .int 5), (.inr "cr", .int 4)])) = H5 at s5 a5
    have ht5 := s5 _ _ ht
    refine ⟨d, rfl, .inl ⟨_, .inl a5⟩, _, rfl, t, _, 0, _, rfl, rfl, .inl (.inl ht5), atI_nat (j := 0) rfl, _, .inl ⟨_, .inr wd, .inl a5, rfl, (tab_get wd).symm⟩, ?_⟩
    by_cases hk : kindLen wd = some (ns.length + 1)
    · rw [hk]
      refine ⟨rfl, _, rfl, ?_⟩
      rw [decide_eq_true (show V.int ((ns.length + 1 : Nat) : Int) = (Option.map (fun n : Nat => V.int n) (some (ns.length + 1))).getD (V.int 0) from rfl)]
      refine iteF ?_
      have hn0 : 0 < ns.length := by rcases kl_table hk with ⟨_, h⟩ | ⟨_, h⟩ | ⟨_, h⟩ <;> omega
      refine ⟨_, rfl, 1, rfl, t, _, rfl, .inl (.inl ht5), whT1 _ _, fun p2 n2 => ?_⟩
      rw [cutT1]
      have s2 := s5.trans (same_upd (o := .tup (ns.map V.int)) n2)
      have ht2 := (same_upd (o := .tup (ns.map V.int)) n2) _ _ ht5
      refine ⟨p2, ns, rfl, .inl (.inl upd_same), hn0, fun m hm hmin => ?_⟩
      refine ⟨_, _, rfl, rfl, _, rfl, ?_⟩
      have hF : isFB (some (wd, ns)) = (decide (∀ x ∈ ns, 0 ≤ x) && (decide (wd = "keep") || decide (0 < ns.getD 2 0))) := by
        show (_ && _ && _) = _
        rw [decide_eq_true hk, Bool.true_and]
      rw [hF] at q
      by_cases hm0 : m ≥ 0
      · rw [decide_eq_true hm0]
        rw [decide_eq_true (show ∀ x ∈ ns, 0 ≤ x from fun x hx => by have := hmin x hx; omega), Bool.true_and] at q
        refine iteT ⟨_, rfl, t, _, rfl, .inr (.inl (.inl ht2)), _, _, rfl, rfl, _, rfl, ?_⟩
        rw [hlen]
        rcases kl_table hk with ⟨rfl, h⟩ | ⟨e, h⟩ | ⟨e, h⟩
        · rw [decide_eq_true (by omega : ((ns.length + 1 : Nat) : Int) < 4)]
          exact iteT (q _ s2)
        all_goals
          rw [decide_eq_false (by omega : ¬ ((ns.length + 1 : Nat) : Int) < 4)]
          have hg : ns[2]? = some (ns.getD 2 0) := by
            rw [List.getD_eq_getElem?_getD, List.getElem?_eq_getElem (by omega)]
            rfl
          rw [e, decide_eq_false (by decide), Bool.false_or] at q
          refine iteF ⟨_, rfl, t, _, 3, .int (ns.getD 2 0), rfl, rfl, .inl (.inl ht2), atI_nat (j := 3) (by show (ns.map V.int)[2]? = _; rw [List.getElem?_map, hg]; rfl), _, _, rfl, rfl, ?_⟩
          exact q _ s2
      · rw [decide_eq_false hm0]
        rw [decide_eq_false (show ¬ ∀ x ∈ ns, 0 ≤ x from fun z => hm0 (z m hm)), Bool.false_and] at q
        exact iteF (q _ s2)
    · have hF : isFB (some (wd, ns)) = false := by
        show (_ && _ && _) = false
        rw [decide_eq_false hk]
        rfl
      rw [hF] at q
      cases e : kindLen wd with
      | none =>
        refine ⟨rfl, _, rfl, ?_⟩
        rw [decide_eq_false (show ¬ V.int ((ns.length + 1 : Nat) : Int) = (Option.map (fun n : Nat => V.int n) none).getD (V.int 0) from fun z => by have := V.int.inj z; omega)]
        exact iteT (q _ s5)
      | some n =>
        refine ⟨rfl, _, rfl, ?_⟩
        rw [decide_eq_false (show ¬ V.int ((ns.length + 1 : Nat) : Int) = (Option.map (fun n : Nat => V.int n) (some n)).getD (V.int 0) from fun z => hk (by rw [e]; have := V.int.inj z; congr 1; omega))]
        exact iteT (q _ s5)
theorem ok_spf {f aD : Addr} {fd dD : FuncData} {k : Nat} (F : Fun K "_law_spoilt_form" "_law_spoilt_form" sLSpoiltForm f fd) (Z : SrF mg)
    (cD : Cl P w K mg base k "_law_draw" ["bag", "many"] spDraw aD dD) : FnOk P w K mg base CX0 (k + 1) f fd ["bag", "shape"] spSpf := by
  refine F.ok scSpf (fun vs H Q E h => ?_) (fun cdv A outer s H vs Q E hr h => ?_)
  · obtain ⟨r, gl, n, p, f, rfl, _⟩ := h
    rfl
  · obtain ⟨r, gl, n, p, f, rfl, hB, hn, hp, ho, hle, q⟩ := h
    refine ⟨_, (pss_cons (ps_set (i := 2) scSpf.nd rfl (.inl rfl) (pe_call cD.G hr (by rfl) cD.g cD.kp cD.b .nil pass0 (pa_cons (pv 0) (pa_cons pe_int pa_nil))))
      (pss_cons (ps_set (i := 3) scSpf.nd rfl (.inl rfl) (pe_lst (pa_cons (pe_slice sl_tup (pv 1) po_none (po_some (pe_un un_neg pe_int))) (pa_cons (pe_op op_catA (pv 1) (pe_tup (pa_cons pe_int pa_nil))) (pa_cons (pe_op op_catA (pe_tup (pa_cons pe_str pa_nil)) (pe_slice sl_tup (pv 1) (po_some pe_int) po_none)) (pa_cons (pe_op op_catA (pe_tup (pa_cons (pe_ix ix_tup (pv 1) pe_int (fun _ _ => rfl)) (pa_cons (pe_un un_neg pe_int) pa_nil))) (pe_slice sl_tup (pv 1) (po_some pe_int) po_none)) (pa_cons (pe_tup (pa_cons pe_str (pa_cons pe_int (pa_cons pe_int (pa_cons pe_int pa_nil))))) pa_nil)))))))
      (pss_cons (ps_expr (pe_bm PySem.F.plainAttrs_list PySem.F.slot_list_append PySem.F.type_list_append mt_append (pv 3) (pa_cons (pe_tup (pa_cons pe_str (pa_cons pe_int (pa_cons pe_int (pa_cons pe_int pa_nil))))) pa_nil)))
      (pss_cons (ps_expr (pe_bm PySem.F.plainAttrs_list PySem.F.slot_list_append PySem.F.type_list_append mt_append (pv 3) (pa_cons (pe_op op_catA (pe_tup (pa_cons (pe_ix ix_tup (pv 1) pe_int (fun _ _ => rfl)) (pa_cons pe_int (pa_cons (pe_op op_sub pe_int (pe_op op_pow pe_int pe_int)) pa_nil)))) (pe_slice sl_tup (pv 1) (po_some pe_int) po_none)) pa_nil)))
      (pss_cons (ps_if (pt_cmpR op_lt (pv 2) (pe_callB call_len_seq (by rfl) Z.len PySem.boot_len (pa_cons (pv 3) pa_nil)) (nomark _))
          (pss_one (ps_ret (pe_ix ix_list (pv 3) (pv 2) (fun _ _ => rfl)))) pss_nil)
      (pss_one (ps_ret (pv 1)))))))), ?_⟩
    refine ⟨_, rfl, r, gl, _, 12, rfl, hB, by omega, by decide, by decide, fun way H1 way0 way1 hB1 k1 => ?_⟩
    have hpp : H1 p = some (.tup f.vs) := k1 _ _ (hB.neT hp).1 (hB.neT hp).2 hp
    dsimp only [gName, tNext, tSeq]
    have wl : ∀ f : Fm, ¬ (HT.sIx f.vs.length 0 none = 0 ∧ HT.sIx f.vs.length f.vs.length (some (-1)) = f.vs.length)
      | .keep _ _ => show ¬ (HT.sIx 3 0 none = 0 ∧ HT.sIx 3 3 (some (-1)) = 3) by decide
      | .lf _ _ _ _ => show ¬ (HT.sIx 5 0 none = 0 ∧ HT.sIx 5 5 (some (-1)) = 5) by decide
      | .cr _ _ _ => show ¬ (HT.sIx 4 0 none = 0 ∧ HT.sIx 4 4 (some (-1)) = 4) by decide
    have wl2 : ∀ f : Fm, ¬ (HT.sIx f.vs.length 0 (some 2) = 0 ∧ HT.sIx f.vs.length f.vs.length none = f.vs.length)
      | .keep _ _ => show ¬ (HT.sIx 3 0 (some 2) = 0 ∧ HT.sIx 3 3 none = 3) by decide
      | .lf _ _ _ _ => show ¬ (HT.sIx 5 0 (some 2) = 0 ∧ HT.sIx 5 5 none = 5) by decide
      | .cr _ _ _ => show ¬ (HT.sIx 4 0 (some 2) = 0 ∧ HT.sIx 4 4 none = 4) by decide
    refine ⟨_, rfl, (1 : Int), rfl, (-1 : Int), rfl, p, f.vs, rfl, .inl (.inl hpp), wl f, fun p1 np1 => ?_⟩
    have sA : Same H1 H1 := Same.refl _
    have lv := vs_len f
    have ln : f.nums.length ≤ 4 := by cases f <;> simp [Fm.nums]
    have sp1 := same_upd (o := .tup (cutV f.vs none (some (-1)))) np1
    have hp1 : upd H1 p1 (.tup (cutV f.vs none (some (-1)))) p1 = _ := upd_same
    generalize upd H1 p1 (.tup (cutV f.vs none (some (-1)))) = G1 at sp1 hp1
    replace hpp := sp1 _ _ hpp
    replace sA := sA.trans sp1
    refine ⟨_, rfl, by show 1 ≤ sizeLine; decide, fun u2 nu2 => ?_⟩
    have su2 := same_upd (o := .tup [.int 1]) nu2
    have hu2 : upd G1 u2 (.tup [.int 1]) u2 = _ := upd_same
    generalize upd G1 u2 (.tup [.int 1]) = G2 at su2 hu2
    replace hpp := su2 _ _ hpp
    replace hp1 := su2 _ _ hp1
    replace sA := sA.trans su2
    refine ⟨p, u2, f.vs, [.int 1], rfl, rfl, .inl (.inl hpp), .inl (.inl hu2), by rw [sizeLine_eq]; show f.vs.length + 1 ≤ _; omega, fun e => absurd e (by cases f <;> exact fun z => nomatch z), (fun _ e => nomatch e), fun _ _ p2 np2 => ?_⟩
    have sp2 := same_upd (o := .tup (f.vs ++ [.int 1])) np2
    have hp2 : upd G2 p2 (.tup (f.vs ++ [.int 1])) p2 = _ := upd_same
    generalize upd G2 p2 (.tup (f.vs ++ [.int 1])) = G3 at sp2 hp2
    replace hpp := sp2 _ _ hpp
    replace hp1 := sp2 _ _ hp1
    replace hu2 := sp2 _ _ hu2
    replace sA := sA.trans sp2
    refine ⟨by show 1 ≤ sizeLine; decide, fun u3 nu3 => ?_⟩
    have su3 := same_upd (o := .tup [.str "kept"]) nu3
    have hu3 : upd G3 u3 (.tup [.str "kept"]) u3 = _ := upd_same
    generalize upd G3 u3 (.tup [.str "kept"]) = G4 at su3 hu3
    replace hpp := su3 _ _ hpp
    replace hp1 := su3 _ _ hp1
    replace hu2 := su3 _ _ hu2
    replace hp2 := su3 _ _ hp2
    replace sA := sA.trans su3
    refine ⟨_, rfl, 1, rfl, p, f.vs, rfl, .inl (.inl hpp), wh f, fun v3 nv3 => ?_⟩
    rw [cut1]
    have sv3 := same_upd (o := .tup (f.nums.map V.int)) nv3
    have hv3 : upd G4 v3 (.tup (f.nums.map V.int)) v3 = _ := upd_same
    generalize upd G4 v3 (.tup (f.nums.map V.int)) = G5 at sv3 hv3
    replace hpp := sv3 _ _ hpp
    replace hp1 := sv3 _ _ hp1
    replace hu2 := sv3 _ _ hu2
    replace hp2 := sv3 _ _ hp2
    replace hu3 := sv3 _ _ hu3
    replace sA := sA.trans sv3
    refine ⟨u3, v3, [.str "kept"], f.nums.map V.int, rfl, rfl, .inl (.inl hu3), .inl (.inl hv3), by rw [sizeLine_eq, List.length_map]; show 1 + f.nums.length ≤ _; omega, (fun e => nomatch e), fun _ e => absurd e (by cases f <;> exact fun z => nomatch z), fun _ _ p3 np3 => ?_⟩
    have sp3 := same_upd (o := .tup ([.str "kept"] ++ f.nums.map V.int)) np3
    have hp3 : upd G5 p3 (.tup ([.str "kept"] ++ f.nums.map V.int)) p3 = _ := upd_same
    generalize upd G5 p3 (.tup ([.str "kept"] ++ f.nums.map V.int)) = G6 at sp3 hp3
    replace hpp := sp3 _ _ hpp
    replace hp1 := sp3 _ _ hp1
    replace hu2 := sp3 _ _ hu2
    replace hp2 := sp3 _ _ hp2
    replace hu3 := sp3 _ _ hu3
    replace hv3 := sp3 _ _ hv3
    replace sA := sA.trans sp3
    refine ⟨_, rfl, p, f.vs, 0, _, rfl, rfl, .inl (.inl hpp), atI_nat (j := 0) f.vs0, (1 : Int), rfl, by show 2 ≤ sizeLine; decide, fun u4 nu4 => ?_⟩
    have su4 := same_upd (o := .tup [.str f.nm, .int (-1)]) nu4
    have hu4 : upd G6 u4 (.tup [.str f.nm, .int (-1)]) u4 = _ := upd_same
    generalize upd G6 u4 (.tup [.str f.nm, .int (-1)]) = G7 at su4 hu4
    replace hpp := su4 _ _ hpp
    replace hp1 := su4 _ _ hp1
    replace hu2 := su4 _ _ hu2
    replace hp2 := su4 _ _ hp2
    replace hu3 := su4 _ _ hu3
    replace hv3 := su4 _ _ hv3
    replace hp3 := su4 _ _ hp3
    replace sA := sA.trans su4
    refine ⟨_, rfl, 2, rfl, p, f.vs, rfl, .inl (.inl hpp), wl2 f, fun v4 nv4 => ?_⟩
    rw [show cutV f.vs (some 2) none = (f.nums.drop 1).map V.int by cases f <;> rfl]
    have sv4 := same_upd (o := .tup ((f.nums.drop 1).map V.int)) nv4
    have hv4 : upd G7 v4 (.tup ((f.nums.drop 1).map V.int)) v4 = _ := upd_same
    generalize upd G7 v4 (.tup ((f.nums.drop 1).map V.int)) = G8 at sv4 hv4
    replace hpp := sv4 _ _ hpp
    replace hp1 := sv4 _ _ hp1
    replace hu2 := sv4 _ _ hu2
    replace hp2 := sv4 _ _ hp2
    replace hu3 := sv4 _ _ hu3
    replace hv3 := sv4 _ _ hv3
    replace hp3 := sv4 _ _ hp3
    replace hu4 := sv4 _ _ hu4
    replace sA := sA.trans sv4
    refine ⟨u4, v4, [.str f.nm, .int (-1)], (f.nums.drop 1).map V.int, rfl, rfl, .inl (.inl hu4), .inl (.inl hv4), by rw [sizeLine_eq, List.length_map, List.length_drop]; show 2 + (f.nums.length - 1) ≤ _; omega, (fun e => nomatch e), fun _ e => absurd e (by cases f <;> exact fun z => nomatch z), fun _ _ p4 np4 => ?_⟩
    have sp4 := same_upd (o := .tup ([.str f.nm, .int (-1)] ++ (f.nums.drop 1).map V.int)) np4
    have hp4 : upd G8 p4 (.tup ([.str f.nm, .int (-1)] ++ (f.nums.drop 1).map V.int)) p4 = _ := upd_same
    generalize upd G8 p4 (.tup ([.str f.nm, .int (-1)] ++ (f.nums.drop 1).map V.int)) = G9 at sp4 hp4
    replace hpp := sp4 _ _ hpp
    replace hp1 := sp4 _ _ hp1
    replace hu2 := sp4 _ _ hu2
    replace hp2 := sp4 _ _ hp2
    replace hu3 := sp4 _ _ hu3
    replace hv3 := sp4 _ _ hv3
    replace hp3 := sp4 _ _ hp3
    replace hu4 := sp4 _ _ hu4
    replace hv4 := sp4 _ _ hv4
    replace sA := sA.trans sp4
    refine ⟨by show 4 ≤ sizeLine; decide, fun p5 np5 => ?_⟩
    have sp5 := same_upd (o := .tup [.str "cr", .int 0, .int 0, .int 0]) np5
    have hp5 : upd G9 p5 (.tup [.str "cr", .int 0, .int 0, .int 0]) p5 = _ := upd_same
    generalize upd G9 p5 (.tup [.str "cr", .int 0, .int 0, .int 0]) = G10 at sp5 hp5
    replace hpp := sp5 _ _ hpp
    replace hp1 := sp5 _ _ hp1
    replace hu2 := sp5 _ _ hu2
    replace hp2 := sp5 _ _ hp2
    replace hu3 := sp5 _ _ hu3
    replace hv3 := sp5 _ _ hv3
    replace hp3 := sp5 _ _ hp3
    replace hu4 := sp5 _ _ hu4
    replace hv4 := sp5 _ _ hv4
    replace hp4 := sp5 _ _ hp4
    replace sA := sA.trans sp5
    refine ⟨by show 5 ≤ sizeLine; decide, fun L nL => ?_⟩
    have hL1 : H1 L = none := sA.free nL
    have sL := same_upd (o := .lst [.ref p1, .ref p2, .ref p3, .ref p4, .ref p5]) nL
    have hL : upd G10 L (.lst [.ref p1, .ref p2, .ref p3, .ref p4, .ref p5]) L = _ := upd_same
    generalize upd G10 L (.lst [.ref p1, .ref p2, .ref p3, .ref p4, .ref p5]) = G11 at sL hL
    replace hpp := sL _ _ hpp
    replace hp1 := sL _ _ hp1
    replace hu2 := sL _ _ hu2
    replace hp2 := sL _ _ hp2
    replace hu3 := sL _ _ hu3
    replace hv3 := sL _ _ hv3
    replace hp3 := sL _ _ hp3
    replace hu4 := sL _ _ hu4
    replace hv4 := sL _ _ hv4
    replace hp4 := sL _ _ hp4
    replace hp5 := sL _ _ hp5
    replace sA := sA.trans sL
    dsimp only [gName, tNext, tSeq]
    refine ⟨_, rfl, .inl ⟨rfl, _, .inl (.inl hL)⟩, by show 4 ≤ sizeLine; decide, fun p6 np6 => ?_⟩
    have sp6 := same_upd (o := .tup [.str "lf", .int 0, .int 0, .int 1]) np6
    have hp6 : upd G11 p6 (.tup [.str "lf", .int 0, .int 0, .int 1]) p6 = _ := upd_same
    generalize upd G11 p6 (.tup [.str "lf", .int 0, .int 0, .int 1]) = G12 at sp6 hp6
    have hL12 := sp6 _ _ hL
    refine ⟨L, _, .ref p6, rfl, rfl, hL12, by show 5 < sizeLine; decide, ?_⟩
    have kL : ∀ b xs, G12 b = some (.tup xs) → upd G12 L (.lst ([.ref p1, .ref p2, .ref p3, .ref p4, .ref p5] ++ [.ref p6])) b = some (.tup xs) := fun b xs h => by
      rw [upd_ne (ne_of h hL12 (by intro z; cases z))]; exact h
    have kN : ∀ b o, b ≠ L → H1 b = some o → upd G12 L (.lst ([.ref p1, .ref p2, .ref p3, .ref p4, .ref p5] ++ [.ref p6])) b = some o := fun b o h1 h => by
      rw [upd_ne h1]; exact sp6 _ _ (sA _ _ h)
    have g1 := kL _ _ (sp6 _ _ hp1)
    have g2 := kL _ _ (sp6 _ _ hp2)
    have g3 := kL _ _ (sp6 _ _ hp3)
    have g4 := kL _ _ (sp6 _ _ hp4)
    have g5 := kL _ _ (sp6 _ _ hp5)
    have g6 := kL _ _ hp6
    have gp := kL _ _ (sp6 _ _ hpp)
    have gL : upd G12 L (.lst ([.ref p1, .ref p2, .ref p3, .ref p4, .ref p5] ++ [.ref p6])) L = _ := upd_same
    have hB13 : BagAt (upd G12 L (.lst ([.ref p1, .ref p2, .ref p3, .ref p4, .ref p5] ++ [.ref p6]))) r gl (n + 1) := ((hB1.same sA).same sp6).own (hB1.ne hL1)
    clear hp1 hp2 hp3 hp4 hp5 hp6 hpp hu2 hu3 hv3 hu4 hv4 sp1 su2 sp2 su3 sv3 sp3 su4 sv4 sp4 sp5 sL hL hL12
    generalize upd G12 L (.lst ([.ref p1, .ref p2, .ref p3, .ref p4, .ref p5] ++ [.ref p6])) = G13 at kN g1 g2 g3 g4 g5 g6 gp gL hB13
    have hLr := hB1.ne hL1
    have kG : Kb r gl H G13 := fun b o h1 h2 h => kN b o (fun e => by rw [e] at h1 h2; have := k1 L o h1 h2 (by rw [← e]; exact h); rw [hL1] at this; cases this) (k1 b o h1 h2 h)
    dsimp only [gName, tNext, tSeq]
    refine ⟨_, rfl, .inl ⟨rfl, _, .inl (.inl gL)⟩, _, rfl, p, f.vs, 0, _, rfl, rfl, .inl (.inl gp), atI_nat (j := 0) f.vs0, _, _, rfl, rfl, ⟨by decide, by decide, by decide⟩, _, _, rfl, rfl, by show 3 ≤ sizeLine; decide, fun u7 nu7 => ?_⟩
    have s7 := same_upd (o := .tup [.str f.nm, .int 0, .int (0 - (10 : Int) ^ (20 : Int).toNat)]) nu7
    have hu7 : upd G13 u7 (.tup [.str f.nm, .int 0, .int (0 - (10 : Int) ^ (20 : Int).toNat)]) u7 = _ := upd_same
    generalize upd G13 u7 (.tup [.str f.nm, .int 0, .int (0 - (10 : Int) ^ (20 : Int).toNat)]) = G14 at s7 hu7
    refine ⟨_, rfl, 3, rfl, p, f.vs, rfl, .inl (.inl (s7 _ _ gp)), wh3 f, fun v7 nv7 => ?_⟩
    rw [show cutV f.vs (some 3) none = (f.nums.drop 2).map V.int by cases f <;> rfl]
    have s8 := same_upd (o := .tup ((f.nums.drop 2).map V.int)) nv7
    have hv7 : upd G14 v7 (.tup ((f.nums.drop 2).map V.int)) v7 = _ := upd_same
    generalize upd G14 v7 (.tup ((f.nums.drop 2).map V.int)) = G15 at s8 hv7
    refine catA_any (s8 _ _ hu7) (.inl (.inl hv7)) (fun z => nomatch z) (by rw [sizeLine_eq, List.length_map, List.length_drop]; show 3 + (f.nums.length - 2) ≤ _; omega) (fun G16 p7 s9 hp7 => ?_)
    have sB := (s7.trans s8).trans s9
    refine ⟨L, _, .ref p7, rfl, rfl, sB _ _ gL, by show 6 < sizeLine; decide, ?_⟩
    have kL2 : ∀ b xs, G16 b = some (.tup xs) → upd G16 L (.lst (([.ref p1, .ref p2, .ref p3, .ref p4, .ref p5] ++ [.ref p6]) ++ [.ref p7])) b = some (.tup xs) := fun b xs h => by
      rw [upd_ne (ne_of h (sB _ _ gL) (by intro z; cases z))]; exact h
    have hB17 : BagAt (upd G16 L (.lst (([.ref p1, .ref p2, .ref p3, .ref p4, .ref p5] ++ [.ref p6]) ++ [.ref p7]))) r gl (n + 1) := (hB13.same sB).own hLr
    have kG2 : Kb r gl H (upd G16 L (.lst (([.ref p1, .ref p2, .ref p3, .ref p4, .ref p5] ++ [.ref p6]) ++ [.ref p7]))) := fun b o h1 h2 h => by
      rw [upd_ne (fun e => by rw [e] at h1 h2; have := k1 L o h1 h2 (by rw [← e]; exact h); rw [hL1] at this; cases this)]
      exact sB _ _ (kG b o h1 h2 h)
    have gL2 : upd G16 L (.lst (([.ref p1, .ref p2, .ref p3, .ref p4, .ref p5] ++ [.ref p6]) ++ [.ref p7])) L = _ := upd_same
    have f1 := kL2 _ _ (sB _ _ g1)
    have f2 := kL2 _ _ (sB _ _ g2)
    have f3 := kL2 _ _ (sB _ _ g3)
    have f4 := kL2 _ _ (sB _ _ g4)
    have f5 := kL2 _ _ (sB _ _ g5)
    have f6 := kL2 _ _ (sB _ _ g6)
    have f7 := kL2 _ _ hp7
    have fp := kL2 _ _ (sB _ _ gp)
    clear g1 g2 g3 g4 g5 g6 gp kL kL2 hB13 kN kG hu7 hv7 hp7 s7 s8 s9
    generalize upd G16 L (.lst (([.ref p1, .ref p2, .ref p3, .ref p4, .ref p5] ++ [.ref p6]) ++ [.ref p7])) = G17 at *
    dsimp only [gName, tNext, tSeq]
    refine ⟨_, rfl, _, rfl, L, _, rfl, .inl (.inl (.inl gL2)), _, _, rfl, rfl, _, rfl, ?_⟩
    have hnum : ∀ x ∈ f.nums, Sm 111 x ∧ x ≤ 100000 := fun x hx => by
      refine ⟨?_, hle x hx⟩
      cases f with
      | keep b a =>
        simp only [Fm.nums, List.mem_cons, List.not_mem_nil, or_false] at hx
        rcases hx with rfl | rfl
        · exact ho.2.2.1
        · exact ho.2.2.2
      | lf b a k c =>
        simp only [Fm.nums, List.mem_cons, List.not_mem_nil, or_false] at hx
        obtain ⟨_, _, _, _, h1, h2, h3, h4⟩ := ho
        rcases hx with rfl | rfl | rfl | rfl <;> assumption
      | cr b a k =>
        simp only [Fm.nums, List.mem_cons, List.not_mem_nil, or_false] at hx
        obtain ⟨_, _, _, h1, h2, h3⟩ := ho
        rcases hx with rfl | rfl | rfl <;> assumption
    have hkl : kindLen f.nm ≠ none := by cases f <;> exact fun z => nomatch z
    have smk : ∀ z : Int, z.natAbs ≤ 5 → Sm 111 z ∧ z ≤ 100000 := fun z hz => by
      have : (5 : Nat) < 2 ^ 111 := by decide
      exact ⟨Nat.lt_of_le_of_lt hz this, by omega⟩
    have t20 : Sm 111 (0 - (10 : Int) ^ (20 : Int).toNat) ∧ (0 - (10 : Int) ^ (20 : Int).toNat) ≤ 100000 := ⟨ten20, by decide +kernel⟩
    by_cases hw : way < 7
    · rw [show decide (way < (([V.ref p1, V.ref p2, V.ref p3, V.ref p4, V.ref p5] ++ [V.ref p6] ++ [V.ref p7]).length : Int)) = true from decide_eq_true hw]
      refine iteT ⟨_, rfl, _, rfl, L, [V.ref p1, V.ref p2, V.ref p3, V.ref p4, V.ref p5] ++ [V.ref p6] ++ [V.ref p7], way, ?_⟩
      rcases (by omega : way = 0 ∨ way = 1 ∨ way = 2 ∨ way = 3 ∨ way = 4 ∨ way = 5 ∨ way = 6) with rfl | rfl | rfl | rfl | rfl | rfl | rfl
      · refine ⟨_, rfl, rfl, .inl (.inl gL2), rfl, q p1 f.nm f.nums.dropLast G17 (by rw [f1]; cases f <;> rfl) ⟨.inl hkl, by rw [List.length_dropLast]; omega⟩ (fun x hx => hnum x (List.mem_of_mem_take (by rw [List.dropLast_eq_take] at hx; exact hx))) (by cases f <;> simp [Fm.nums]) hB17 kG2⟩
      · refine ⟨_, rfl, rfl, .inl (.inl gL2), rfl, q p2 f.nm (f.nums ++ [1]) G17 (by rw [f2]; cases f <;> rfl) ⟨.inl hkl, by rw [List.length_append]; show f.nums.length + 1 ≤ _; omega⟩ (fun x hx => ?_) (by rw [List.length_append]; show 1 ≤ f.nums.length + 1; omega) hB17 kG2⟩
        rcases List.mem_append.mp hx with h | h
        · exact hnum x h
        · rw [List.mem_singleton.mp h]; exact smk 1 (by decide)
      · refine ⟨_, rfl, rfl, .inl (.inl gL2), rfl, q p3 "kept" f.nums G17 (by rw [f3]; rfl) ⟨.inr rfl, by omega⟩ hnum (by cases f <;> simp [Fm.nums]) hB17 kG2⟩
      · refine ⟨_, rfl, rfl, .inl (.inl gL2), rfl, q p4 f.nm (-1 :: f.nums.drop 1) G17 (by rw [f4]; rfl) ⟨.inl hkl, by rw [List.length_cons, List.length_drop]; omega⟩ (fun x hx => ?_) (by rw [List.length_cons]; omega) hB17 kG2⟩
        rcases List.mem_cons.mp hx with h | h
        · rw [h]; exact smk (-1) (by decide)
        · exact hnum x (List.mem_of_mem_drop h)
      · refine ⟨_, rfl, rfl, .inl (.inl gL2), rfl, q p5 "cr" [0, 0, 0] G17 (by rw [f5]; rfl) ⟨.inl (fun z => nomatch z), by decide⟩ (fun x hx => ?_) (by decide) hB17 kG2⟩
        simp only [List.mem_cons, List.not_mem_nil, or_false, or_self] at hx
        subst hx; exact smk 0 (by decide)
      · refine ⟨_, rfl, rfl, .inl (.inl gL2), rfl, q p6 "lf" [0, 0, 1] G17 (by rw [f6]; rfl) ⟨.inl (fun z => nomatch z), by decide⟩ (fun x hx => ?_) (by decide) hB17 kG2⟩
        simp only [List.mem_cons, List.not_mem_nil, or_false] at hx
        rcases hx with rfl | rfl | rfl
        · exact smk 0 (by decide)
        · exact smk 0 (by decide)
        · exact smk 1 (by decide)
      · refine ⟨_, rfl, rfl, .inl (.inl gL2), rfl, q p7 f.nm (0 :: (0 - (10 : Int) ^ (20 : Int).toNat) :: f.nums.drop 2) G17 (by rw [f7]; rfl) ⟨.inl hkl, by rw [List.length_cons, List.length_cons, List.length_drop]; omega⟩ (fun x hx => ?_) (by rw [List.length_cons]; omega) hB17 kG2⟩
        rcases List.mem_cons.mp hx with h | h
        · rw [h]; exact smk 0 (by decide)
        · rcases List.mem_cons.mp h with h | h
          · rw [h]; exact t20
          · exact hnum x (List.mem_of_mem_drop h)
    · rw [show decide (way < (([V.ref p1, V.ref p2, V.ref p3, V.ref p4, V.ref p5] ++ [V.ref p6] ++ [V.ref p7]).length : Int)) = false from decide_eq_false hw]
      refine iteF ⟨_, rfl, q p f.nm f.nums G17 (by rw [fp]; cases f <;> rfl) ⟨.inl hkl, by omega⟩ hnum (by cases f <;> simp [Fm.nums]) hB17 kG2⟩
end
end Lw
namespace Lw
open PySem PySem.Spec L2 Lx
theorem asgK {v : V} {g : TG} {D : Ends} {σ : St} {H : Hp} (h : g v σ H D.nx) : tAsg (tC v) g D σ H := h
theorem op_eqDK {X : Cx} {K : PySem.W.Frag} (hK : X.K = K) (hu : X.A.units + 64 < cLine) : OpR X (compareOp .Eq) (rEqD K) := by
  subst hK
  exact op_eqD hu
theorem op_neDK {X : Cx} {K : PySem.W.Frag} (hK : X.K = K) (hu : X.A.units + 64 < cLine) : OpR X (compareOp .NotEq) (rNeD K) := by
  subst hK
  exact op_neD hu
/-! ### a pool of draws: a list of three numbers -/
def PoolAt (H : Hp) (p : Addr) (n : Nat) : Prop := ∃ a m k : Int, H p = some (.lst [.int a, .int m, .int k]) ∧ 0 ≤ a ∧ 0 ≤ m ∧ m < 9223372036854775808 ∧ 0 ≤ k ∧ k ≤ n
theorem PoolAt.same {H H' : Hp} {p : Addr} {n : Nat} (s : Same H H') : PoolAt H p n → PoolAt H' p n := fun ⟨a, m, k, h, r⟩ => ⟨a, m, k, s _ _ h, r⟩
theorem PoolAt.mono {H : Hp} {p : Addr} {n m : Nat} (h : n ≤ m) : PoolAt H p n → PoolAt H p m := fun ⟨a, x, k, h1, h2, h3, h4, h5, h6⟩ => ⟨a, x, k, h1, h2, h3, h4, h5, by omega⟩
theorem PoolAt.ne {H : Hp} {p b : Addr} {n : Nat} (s : PoolAt H p n) (h : H b = none) : b ≠ p := by
  obtain ⟨_, _, _, q, _⟩ := s
  exact Ne.symm (ne_of_none q h)
theorem PoolAt.neT {H : Hp} {p b : Addr} {n : Nat} {xs : List V} (s : PoolAt H p n) (h : H b = some (.tup xs)) : b ≠ p := by
  obtain ⟨_, _, _, q, _⟩ := s
  exact ne_of h q (by intro z; cases z)
theorem PoolAt.own {H : Hp} {p b : Addr} {n : Nat} {o : HO} (s : PoolAt H p n) (ne : b ≠ p) : PoolAt (upd H b o) p n := by
  obtain ⟨a, m, k, h, r⟩ := s
  exact ⟨a, m, k, by rw [upd_ne (Ne.symm ne)]; exact h, r⟩
theorem Kd.put {d : Addr} {H : Hp} {o : HO} : Kd d H (upd H d o) := fun b u hb e => by rw [upd_ne hb]; exact e
theorem Kd.own {d b : Addr} {H H' : Hp} {o : HO} (k : Kd d H H') (h : H b = none) : Kd d H (upd H' b o) := fun c u hc e => by
  rw [upd_ne (ne_of_none e h)]
  exact k c u hc e
theorem Kd.freeP {d b : Addr} {H H' : Hp} {n : Nat} (k : Kd d H H') (s : PoolAt H' d n) (h : H' b = none) : H b = none := by
  cases e : H b with
  | none => rfl
  | some o =>
    have := k b o (s.ne h) e
    rw [h] at this
    cases this
theorem Prs.kd {K : PySem.W.Frag} {H H' : Hp} {d : Addr} {n : Nat} (s : PoolAt H d n) (k : Kd d H H') : ∀ {vs : List V} {gs : List (Int × Int)}, Prs K H vs gs → Prs K H' vs gs
  | _, _, .nil => .nil
  | _, _, .cons ⟨p, e, h⟩ t => .cons ⟨p, e, k _ _ (s.neT h) h⟩ (Prs.kd s k t)
theorem RnS.kd {K : PySem.W.Frag} {H H' : Hp} {v : V} {l d : Addr} {n : Nat} {g : List (Int × Int) × Int} (s : PoolAt H d n) (k : Kd d H H') (ne : l ≠ d) : RnS K H v l g → RnS K H' v l g :=
  fun ⟨p, xs, h1, h2, h3, h4⟩ => ⟨p, xs, h1, k _ _ (s.neT h2) h2, k _ _ ne h3, Prs.kd s k h4⟩
end Lw
/-! three keywords, the last parameter's first; operators that are read in one of two ways -/
namespace Lx
open PySem PySem.Spec L2
def g321 (α : Type) : List α → List α → List α
  | [], [a, b, c] => [c, b, a]
  | _, _ => []
theorem kb321 {K : PySem.W.Frag} {x qual : Str} {st : Stmt} {f : Addr} {fd : FuncData} {p1 p2 p3 : Str} (F : Fun K x qual st f fd)
    (h : ∀ (kV doc pm : Value) (an : Option Addr) (cdv ct a b c : Value), bindArgs (PySem.W.fnOf x qual (defArgs st) (defBody st) (defScope st) .none kV doc pm an cdv ct) ⟨[], [(p3, a), (p2, b), (p1, c)]⟩ = pure [(p1, c), (p2, b), (p3, a)]) : KBinds K fd [p1, p2, p3] [p3, p2, p1] (g321 Value) (g321 V) := by
  obtain ⟨oc, od, kV, doc, pm, an, cdv, ct, osl, rfl, lk, hcd⟩ := F.ex
  refine ⟨fun s us ws _ hl => ?_, fun {vs us zs ws} r1 r2 => ?_⟩
  · match us, ws, hl with
    | [], [a, b, c], _ => exact .of_eq (h kV doc pm an cdv ct a b c)
    | [], [], hl => exact absurd hl (by simp [g321])
    | [], [_], hl => exact absurd hl (by simp [g321])
    | [], [_, _], hl => exact absurd hl (by simp [g321])
    | [], _ :: _ :: _ :: _ :: _, hl => exact absurd hl (by simp [g321])
    | _ :: _, _, hl => exact absurd hl (by simp [g321])
  · cases r1 with
    | cons _ _ => exact .nil
    | nil =>
      cases r2 with
      | nil => exact .nil
      | cons a t =>
        cases t with
        | nil => exact .nil
        | cons b t =>
          cases t with
          | nil => exact .nil
          | cons c t =>
            cases t with
            | nil => exact .cons c (.cons b (.cons a .nil))
            | cons _ _ => exact .nil
/-- read in one of two ways -/
theorem op_either {X : Cx} {op : CmpOp} {r r' : R2} (h : OpR X (compareOp op) r) (h' : OpR X (compareOp op) r') : OpR X (compareOp op) (fun x y H Q => r x y H Q ∨ r' x y H Q) := by
  intro pins s σ H x y v u Q I rx ry hq
  rcases hq with hq | hq
  · exact h pins s σ H x y v u Q I rx ry hq
  · exact h' pins s σ H x y v u Q I rx ry hq
end Lx
namespace Lw
open PySem PySem.Spec L2 Lx
theorem scLaw : FnScope ["script", "bag", "turn", "run_now", "shape", "place", "which", "due", "many"] ["script"] (defScope sLaw) := ⟨rfl, rfl, rfl, by decide +kernel, rfl, by decide +kernel, by decide +kernel⟩
structure LwF (mg : Str → Option Value) : Prop where
  range : mg "range" = none
  min : mg "min" = none
  len : mg "len" = none
theorem size_after {n : Nat} {r : List (Int × Int) × Int} {f : Fm} (h : RnOk n r) (hf : f.Ok n) : units (runAfter r f) nothing = width f * units r f := by
  cases f with
  | keep b a =>
    rw [units_both, both_nothing hf]
    show _ = 1 * _
    rw [Int.one_mul]
  | lf b a k c =>
    have hc : nothing.after c = c := nothing_after hf.2.2.2.1
    show units (if k * units r (.lf b a k c) = 0 then ([], 0) else ([(k * units r (.lf b a k c), c)], 0)) nothing = k * (c + 1) * units r (.lf b a k c)
    by_cases z : k * units r (.lf b a k c) = 0
    · rw [if_pos z, units_none, Int.mul_right_comm, z, Int.zero_mul]
    · rw [if_neg z, units_one, hc, Int.mul_right_comm]
  | cr b a k =>
    show units ([], k * units r (.cr b a k)) nothing = k * units r (.cr b a k)
    rw [units_none]
def spLaw (K : PySem.W.Frag) : Sp := fun vs H Q _ => ∃ (a : Addr) (ns : List Int), vs = [.ref a] ∧ SqL K H a (ns.map V.int) ∧ ns.length ≤ 63 ∧ ∀ H', Q (.bl true) H'
/-- what is due, as a value -/
def DueAt (H : Hp) (o : Option (Nat × V)) (v : V) : Prop := match o with
  | none => v = .non
  | some (c, x) => ∃ p, v = .ref p ∧ H p = some (.tup [.str (kn c), x])
theorem outc_some {wh : Nat} {g : List (Int × Int) × Int} {tp : Tp} {p : Int} {c : Nat} {u : V} (h : (if wh < 3 then (match faultR g with | some v => some (1, v) | none => (if isFB tp = true then none else some (2, .non))) else (if isFB tp = true then none else some (2, .non)) : Option (Nat × V)) = some (c, u)) : outc (wh : Int) g tp p = some (c, u) := by
  unfold outc
  by_cases z : wh < 3
  · rw [if_pos z] at h
    rw [if_pos (by omega)]
    cases e : faultR g with
    | some v => rw [e] at h; exact h
    | none =>
      rw [e] at h
      by_cases y : isFB tp = true
      · rw [if_pos y] at h; cases h
      · rw [if_neg y] at h; show (if isFB tp = true then _ else _) = _; rw [if_neg y]; exact h
  · rw [if_neg z] at h
    rw [if_neg (by omega)]
    exact h
theorem outc_none {wh : Nat} {g : List (Int × Int) × Int} {tp : Tp} {p : Int} (hw : wh = 0 ∨ 3 ≤ wh) (h : (if wh < 3 then (match faultR g with | some v => some (1, v) | none => (if isFB tp = true then none else some (2, .non))) else (if isFB tp = true then none else some (2, .non)) : Option (Nat × V)) = none) : outc (wh : Int) g tp p = none := by
  unfold outc
  by_cases z : wh < 3
  · rw [if_pos z] at h
    rw [if_pos (by omega)]
    cases e : faultR g with
    | some v => rw [e] at h; cases h
    | none =>
      rw [e] at h
      by_cases y : isFB tp = true
      · show (if isFB tp = true then _ else _) = _; rw [if_pos y, if_pos (by omega)]
      · rw [if_neg y] at h; cases h
  · rw [if_neg z] at h
    rw [if_neg (by omega)]
    exact h
theorem outc_place {wh : Nat} {g : List (Int × Int) × Int} {tp : Tp} {p : Int} (hw : wh = 1 ∨ wh = 2) (h1 : faultR g = none) (h2 : isFB tp = true) : outc (wh : Int) g tp p = if p < 0 ∨ bnd (wh : Int) g (tpF tp) ≤ p then some (4, .int p) else none := by
  unfold outc
  rw [if_pos (by omega), h1]
  show (if isFB tp = true then _ else _) = _
  rw [if_pos h2, if_neg (by omega)]
theorem outc_v {wh : Int} {g : List (Int × Int) × Int} {tp : Tp} {p : Int} {c : Nat} {u : V} (h : outc wh g tp p = some (c, u)) : u = .non ∨ ∃ z, u = .int z := by
  have hf : ∀ v, faultR g = some v → v = .non ∨ ∃ z, v = .int z := fun v e => by
    unfold faultR at e
    split at e
    · cases e; exact .inr ⟨_, rfl⟩
    · split at e
      · cases e; exact .inl rfl
      · cases e
  unfold outc at h
  split at h
  · cases e : faultR g with
    | some v => rw [e] at h; cases h; exact hf _ e
    | none =>
      rw [e] at h
      replace h : (if isFB tp = true then (if wh = 0 then none else if p < 0 ∨ bnd wh g (tpF tp) ≤ p then some (4, .int p) else none) else some (2, .non) : Option (Nat × V)) = some (c, u) := h
      split at h
      · split at h
        · cases h
        · split at h
          · cases h; exact .inr ⟨_, rfl⟩
          · cases h
      · cases h; exact .inl rfl
  · split at h
    · cases h
    · cases h; exact .inl rfl
theorem kn_ok (c : Nat) : PyData.strOk (kn c) = true := by
  unfold kn
  split
  · decide +kernel
  · split <;> decide +kernel
theorem dp_due {K : PySem.W.Frag} {H : Hp} {q : Addr} {c : Nat} {u : V} (h : H q = some (.tup [.str (kn c), u])) (hu : u = .non ∨ ∃ z, u = .int z) : ∃ d, Dp K H (.ref q) (.tuple [.str (kn c), d]) ∧ (d = .none ∧ u = .non ∨ ∃ z, d = .int z ∧ u = .int z) := by
  rcases hu with rfl | ⟨z, rfl⟩
  · exact ⟨_, .tup (.inl (.inl h)) (.cons (.str _) (.cons .non .nil)), .inl ⟨rfl, rfl⟩⟩
  · exact ⟨_, .tup (.inl (.inl h)) (.cons (.str _) (.cons (.int z) .nil)), .inr ⟨z, rfl, rfl⟩⟩
theorem dp_ne {K : PySem.W.Frag} {H : Hp} {q q' : Addr} {c : Nat} {u : V} (h : H q = some (.tup [.str (kn c), u])) (h' : H q' = some (.tup [.str (kn c), u])) (hu : u = .non ∨ ∃ z, u = .int z) {Q : V → Hp → Prop} (hq : Q (.bl false) H) : rNeD K (.ref q) (.ref q') H Q := by
  have hk := kn_ok c
  have sh : ∀ d : PyData, d = .none ∨ (∃ z, d = .int z) → SeqAt.shaped (.tuple [.str (kn c), d]) = true := fun d hd => by
    rcases hd with rfl | ⟨z, rfl⟩ <;> simp [SeqAt.shaped, PyData.canLay0, PyData.canLayAll0, PyData.depth, PyData.depthAll, hk]
  rcases hu with rfl | ⟨z, rfl⟩
  · refine ⟨.tuple [.str (kn c), .none], .tuple [.str (kn c), .none], .tup (.inl (.inl h)) (.cons (.str _) (.cons .non .nil)), .tup (.inl (.inl h')) (.cons (.str _) (.cons .non .nil)), sh _ (.inl rfl), sh _ (.inl rfl), ?_⟩
    rw [SeqAt.eqv_refl _ (SeqAt.canLay_of_shaped (sh _ (.inl rfl)))]
    exact hq
  · refine ⟨.tuple [.str (kn c), .int z], .tuple [.str (kn c), .int z], .tup (.inl (.inl h)) (.cons (.str _) (.cons (.int z) .nil)), .tup (.inl (.inl h')) (.cons (.str _) (.cons (.int z) .nil)), sh _ (.inr ⟨z, rfl⟩), sh _ (.inr ⟨z, rfl⟩), ?_⟩
    rw [SeqAt.eqv_refl _ (SeqAt.canLay_of_shaped (sh _ (.inr ⟨z, rfl⟩)))]
    exact hq
section
variable {P : Program} {w : World} {K : PySem.W.Frag} {mg : Str → Option Value} {base : Heap}
theorem ok_law {f aB aD aU aW aA aN aR aF aI aG aC : Addr} {fd dB dD dU dW dA dN dR dF dI dG dC : FuncData} {k : Nat} (F : Fun K "law" "law" sLaw f fd) (Z : LwF mg)
    (cB : Cl P w K mg base k "_law_bag" ["script"] (spBag K) aB dB)
    (cD : Cl P w K mg base k "_law_draw" ["bag", "many"] spDraw aD dD)
    (cU : Cl P w K mg base k "_law_run" ["bag", "tuples", "most", "wide"] (spRun K) aU dU)
    (cW : Cl P w K mg base k "_law_any_wanted" ["bag", "far"] spAny aW dW)
    (cA : Cl P w K mg base k "_law_after" ["run_now", "shape"] (spLAfter K) aA dA)
    (cN : Cl P w K mg base k "_law_units" ["run_now", "b", "a"] (spLUnits K) aN dN)
    (cSr : Cl P w K mg base k "_law_spoilt_run" ["bag", "run_now"] (spSpr K) aR dR)
    (cSf : Cl P w K mg base k "_law_spoilt_form" ["bag", "shape"] spSpf aF dF)
    (cIf : Cl P w K mg base k "_law_is_form" ["shape"] spLif aI dI)
    (cRf : Cl P w K mg base k "_law_run_fault" ["run_now"] (spFau K) aG dG)
    (cCa : Cl P w K mg base k "_law_caught" ["which", "run_now", "shape", "place"] (spCa K) aC dC) : FnOk P w K mg base CX0 (k + 1) f fd ["script"] (spLaw K) := by
  refine F.ok scLaw (fun vs H Q E h => ?_) (fun cdv A outer s H vs Q E hr h => ?_)
  · obtain ⟨a, ns, rfl, _⟩ := h
    rfl
  · obtain ⟨a, ns, rfl, hS, hlen, q⟩ := h
    refine ⟨_, (pss_cons (ps_set (i := 1) scLaw.nd rfl (.inl rfl) (pe_call cB.G hr (by rfl) cB.g cB.kp cB.b .nil pass0 (pa_cons (pv 0) pa_nil)))
      (pss_cons (ps_for PassesOwn.never rfl (pi_range1 rfl Z.range (pa_cons (pe_op op_add pe_int (pe_callB (call_min2 rfl) (by rfl) Z.min (by decide +kernel) (pa_cons pe_int (pa_cons (pe_callB call_len_seq (by rfl) Z.len PySem.boot_len (pa_cons (pv 0) pa_nil)) pa_nil)))) pa_nil)) (pg_name (i := 2) scLaw.nd rfl (.inl rfl))
          (pss_cons (ps_set (i := 3) scLaw.nd rfl (.inl rfl) (pe_call cSr.G hr (by rfl) cSr.g cSr.kp cSr.b .nil pass0 (pa_cons (pv 1) (pa_cons (pe_call cU.G hr (by rfl) cU.g cU.kp cU.b .nil pass0 (pa_cons (pv 1) (pa_cons pe_int (pa_cons pe_int (pa_cons pe_int pa_nil))))) pa_nil))))
          (pss_cons (ps_set (i := 4) scLaw.nd rfl (.inl rfl) (pe_call cSf.G hr (by rfl) cSf.g cSf.kp cSf.b .nil pass0 (pa_cons (pv 1) (pa_cons (pe_call cW.G hr (by rfl) cW.g cW.kp cW.b .nil pass0 (pa_cons (pv 1) (pa_cons pe_int pa_nil))) pa_nil))))
          (pss_cons (ps_set (i := 5) scLaw.nd rfl (.inl rfl) (pe_ix ix_tup (pe_tup (pa_cons (pe_call cD.G hr (by rfl) cD.g cD.kp cD.b .nil pass0 (pa_cons (pv 1) (pa_cons pe_int pa_nil))) (pa_cons (pe_un un_neg pe_int) (pa_cons (pe_op op_sub pe_int (pe_op op_pow pe_int pe_int)) (pa_cons (pe_op op_pow pe_int pe_int) pa_nil))))) (pe_call cD.G hr (by rfl) cD.g cD.kp cD.b .nil pass0 (pa_cons (pv 1) (pa_cons pe_int pa_nil))) (fun _ _ => rfl)))
          (pss_one (ps_for PassesOwn.never rfl (pi_range1 rfl Z.range (pa_cons pe_int pa_nil)) (pg_name (i := 6) scLaw.nd rfl (.inl rfl))
              (pss_cons (ps_set (i := 7) scLaw.nd rfl (.inl rfl) pe_non)
              (pss_cons (ps_if (pt_not (pt_val (pe_call cIf.G hr (by rfl) cIf.g cIf.kp cIf.b .nil pass0 (pa_cons (pv 4) pa_nil))))
                  (pss_one (ps_set (i := 7) scLaw.nd rfl (.inl rfl) (pe_tup (pa_cons pe_str (pa_cons pe_non pa_nil))))) pss_nil)
              (pss_cons (ps_if (PW.pt (pw_and (pt_cmpR op_lt (pv 6) pe_int (nomark _)) (pw_and1 (pt_cmpR op_notN (pe_call cRf.G hr (by rfl) cRf.g cRf.kp cRf.b .nil pass0 (pa_cons (pv 3) pa_nil)) pe_non (nomark _)))))
                  (pss_one (ps_set (i := 7) scLaw.nd rfl (.inl rfl) (pe_call cRf.G hr (by rfl) cRf.g cRf.kp cRf.b .nil pass0 (pa_cons (pv 3) pa_nil)))) pss_nil)
              (pss_cons (ps_if (PW.pt (pw_and (pt_cmpR op_in_seq (pv 6) (pe_tup (pa_cons pe_int (pa_cons pe_int pa_nil))) (by with_unfolding_all rfl)) (pw_and1 (pt_cmpR op_isN (pv 7) pe_non (nomark _)))))
                  (pss_cons (ps_set (i := 8) scLaw.nd rfl (.inl rfl) (pe_call cN.G hr (by rfl) cN.g cN.kp cN.b .nil pass0 (pa_cons (pe_ix ix_tup (pe_tup (pa_cons (pe_call cA.G hr (by rfl) cA.g cA.kp cA.b .nil pass0 (pa_cons (pv 3) (pa_cons (pv 4) pa_nil))) (pa_cons (pv 3) pa_nil))) (pe_op op_sub (pv 6) pe_int) (fun _ _ => rfl)) (pa_cons pe_int (pa_cons pe_int pa_nil)))))
                  (pss_one (ps_if (pt_not (pt_chain op_le op_lt pe_int (pv 5) (pv 8)))
                      (pss_one (ps_set (i := 7) scLaw.nd rfl (.inl rfl) (pe_tup (pa_cons pe_str (pa_cons (pv 5) pa_nil))))) pss_nil))) pss_nil)
              (pss_one (ps_if (pt_cmpR (op_either (op_neD hr.units) op_ne) (pe_call cCa.G hr (by rfl) cCa.g cCa.kp cCa.b .nil pass0 (pa_cons (pv 6) (pa_cons (pv 3) (pa_cons (pv 4) (pa_cons (pv 5) pa_nil))))) (pv 7) (nomark _))
                  (pss_one (ps_ret pe_bl)) pss_nil))))))))))))
      (pss_one (ps_ret pe_bl)))), ?_⟩
    refine ⟨.ref a, rfl, a, ns, rfl, hS, hlen, fun H1 r gl sm nr ngl hR => ?_⟩
    dsimp only [gName, tNext, tSeq]
    refine ⟨.ref a, rfl, a, _, rfl, .inl (sm.seq hS), 12, _, rfl, _, _, rfl, rfl, _, rfl, ?_, ?_, ?_⟩
    · split <;> omega
    · split <;> omega
    have hb : (6 + (if ((ns.map V.int).length : Int) < 12 then ((ns.map V.int).length : Int) else 12)).toNat ≤ 18 := by split <;> omega
    generalize (6 + (if ((ns.map V.int).length : Int) < 12 then ((ns.map V.int).length : Int) else 12)).toNat = laps at hb
    refine for_range (lo := 0) (n := laps) (fun i σ H' => ∃ y2 y3 y4 y5 y6 y7 y8, σ = [some (.ref a), some (.ref r), y2, y3, y4, y5, y6, y7, y8] ∧ BagAt H' r gl (1000 * i)) ⟨_, _, _, _, _, _, _, rfl, hR⟩ ?_ ?_
    · rintro i σ H2 hi ⟨y2, y3, y4, y5, y6, y7, y8, rfl, hR2⟩
      have hN : 1000 * i ≤ 30000 := by omega
      have goalN : ∀ m, m ≤ 1000 * i + 1000 → m ≤ 1000 * (i + 1) := fun m h => by omega
      generalize 1000 * i = N at hR2 hN goalN
      dsimp only [gName, tNext, tSeq]
      -- run_now
      refine ⟨_, rfl, _, rfl, r, gl, _, 5, 4, 4, rfl, hR2, by omega, by decide, by decide, by decide, by decide, by decide, fun x g H3 hnew hgo hgl hR3 k3 => ?_⟩
      obtain ⟨l, nl, hx⟩ := hnew.s
      have hlr := hR2.ne nl
      refine ⟨r, gl, _, x, l, g, rfl, hR3, by omega, hx, hlr.1, hlr.2, hgo, by omega, fun x' g' H4 hnew' hb1 hb2 hb3 hR4 k4 => ?_⟩
      obtain ⟨l', nl', hx'⟩ := hnew'.s
      have hlr' := hR3.ne nl'
      clear hx hnew hnew' k3 k4
      dsimp only [gName, tNext, tSeq]
      -- shape
      refine ⟨_, rfl, _, rfl, r, gl, _, 9, rfl, hR4, by omega, by decide, by decide, fun p f H5 np hp hf hfx hR5 k5 => ?_⟩
      have hx5 := hx'.kb hR4 k5 hlr'
      refine ⟨r, gl, _, p, f, rfl, hR5, by omega, hp, hf.mono (by decide), fun z hz => by have := hfx z hz; have h9 : max (9 : Int) 4 = 9 := (by decide); omega, fun t wd ns H6 ht htp hnum hns hR6 k6 => ?_⟩
      have hx6 := hx5.kb hR5 k6 hlr'
      clear hx' hx5 k5 k6 hp hf hfx
      dsimp only [gName, tNext, tSeq]
      -- place
      refine ⟨_, rfl, r, gl, _, 30, rfl, hR6, by omega, by decide, by decide, fun pl H7 pl0 pl1 hR7 k7 => ?_⟩
      have hx7 := hx6.kb hR6 k7 hlr'
      have ht7 := k7 _ _ (hR6.neT ht).1 (hR6.neT ht).2 ht
      refine ⟨(1 : Int), rfl, _, _, rfl, rfl, ⟨by decide, by decide, by decide⟩, _, _, rfl, rfl, _, _, rfl, rfl, ⟨by decide, by decide, by decide⟩, by show 4 ≤ sizeLine; decide, fun T nT => ?_⟩
      have sT := same_upd (o := .tup [.int pl, .int (-1), .int (0 - (10 : Int) ^ (20 : Int).toNat), .int ((10 : Int) ^ (29 : Int).toNat)]) nT
      have hT : upd H7 T (.tup [.int pl, .int (-1), .int (0 - (10 : Int) ^ (20 : Int).toNat), .int ((10 : Int) ^ (29 : Int).toNat)]) T = _ := upd_same
      have hTr := hR7.ne nT
      have hR8 := hR7.same sT
      have hx8 := hx7.same sT
      have ht8 := sT _ _ ht7
      generalize upd H7 T (.tup [.int pl, .int (-1), .int (0 - (10 : Int) ^ (20 : Int).toNat), .int ((10 : Int) ^ (29 : Int).toNat)]) = H8 at hT hR8 hx8 ht8
      refine ⟨_, rfl, r, gl, _, 4, rfl, hR8, by omega, by decide, by decide, fun c4 H9 c40 c41 hR9 k9 => ?_⟩
      obtain ⟨place, hat⟩ : ∃ z : Int, atI [V.int pl, .int (-1), .int (0 - (10 : Int) ^ (20 : Int).toNat), .int ((10 : Int) ^ (29 : Int).toNat)] c4 = some (.int z) := by
        rcases (by omega : c4 = 0 ∨ c4 = 1 ∨ c4 = 2 ∨ c4 = 3) with rfl | rfl | rfl | rfl <;> exact ⟨_, rfl⟩
      have hx9 := hx8.kb hR8 k9 hlr'
      have ht9 := k9 _ _ (hR8.neT ht8).1 (hR8.neT ht8).2 ht8
      refine ⟨T, _, c4, _, rfl, rfl, .inl (.inl (k9 _ _ hTr.1 hTr.2 hT)), hat, ?_⟩
      clear hx6 hx7 hx8 ht ht7 ht8 hT sT k7 k9 hR2 hR3 hR4 hR5 hR6 hR7 hR8
      dsimp only [gName, tNext, tSeq]
      generalize htpd : (some (wd, ns) : Tp) = tp at *
      have hbd : Bd32 g' tp := ⟨hb1, hb2, by omega, fun wd' ns' e => by rw [← htpd] at e; cases e; exact hnum⟩
      refine ⟨_, rfl, by decide, by decide, ?_⟩
      refine for_range (lo := 0) (n := 5) (fun wh σ H' => ∃ y6 y7 y8, σ = [some (.ref a), some (.ref r), some (.int (0 + (i : Int))), some x', some (.ref t), some (.int place), y6, y7, y8] ∧ Same H9 H') ⟨_, _, _, rfl, Same.refl _⟩ ?_ ?_
      · rintro wh σ H10 hwh ⟨y6, y7, y8, rfl, s10⟩
        have e0 : (0 : Int) + (wh : Int) = (wh : Int) := Int.zero_add _
        show gName 6 (V.int (0 + (wh : Int))) _ _ _
        rw [e0]
        dsimp only [gName, tNext, tSeq]
        generalize hoA : (if isFB tp = true then none else some (2, V.non) : Option (Nat × V)) = oA
        generalize hoB : (if wh < 3 then (match faultR g' with | some v => some (1, v) | none => oA) else oA : Option (Nat × V)) = oB
        refine asgK ?_
        dsimp only [gName, tNext, tSeq]
        refine if_fin (fun σ H' => ∃ v, σ = [some (.ref a), some (.ref r), some (.int (0 + (i : Int))), some x', some (.ref t), some (.int place), some (.int (wh : Int)), some v, y8] ∧ Same H9 H' ∧ DueAt H' oA v) (fun J hJ => ?_) ?_
        · refine ⟨_, rfl, t, wd, ns, rfl, by rw [htpd]; exact s10 _ _ ht9, fun H11 s11 => ⟨_, rfl, ?_⟩⟩
          rw [htpd]
          cases hF : isFB tp with
          | true =>
            rw [hF, if_pos rfl] at hoA
            subst hoA
            exact iteF (hJ _ _ ⟨.non, rfl, s10.trans s11, rfl⟩)
          | false =>
            rw [hF, if_neg (by decide)] at hoA
            subst hoA
            exact iteT ⟨by show 2 ≤ sizeLine; decide, fun q1 nq1 => hJ _ _ ⟨.ref q1, rfl, (s10.trans s11).trans (same_upd nq1), q1, rfl, upd_same⟩⟩
        · rintro σ H11 ⟨v, rfl, s11, hdu⟩
          dsimp only [gName, tNext, tSeq]
          refine if_fin (fun σ H' => ∃ v, σ = [some (.ref a), some (.ref r), some (.int (0 + (i : Int))), some x', some (.ref t), some (.int place), some (.int (wh : Int)), some v, y8] ∧ Same H9 H' ∧ DueAt H' oB v) (fun J hJ => ?_) ?_
          · refine ⟨_, rfl, _, _, rfl, rfl, _, rfl, ?_⟩
            have dup : ∀ H' , Same H11 H' → DueAt H' oA v := fun H' s => by
              cases oA with
              | none => exact hdu
              | some c => obtain ⟨q0, e1, e2⟩ := hdu; exact ⟨q0, e1, s _ _ e2⟩
            by_cases h3 : (wh : Int) < 3
            · rw [decide_eq_true h3]
              rw [if_pos (by omega)] at hoB
              refine iteT ⟨_, rfl, x', l', g', rfl, hx9.same s11, by omega, fun hv H12 s12 => ?_, fun v2 hv H12 q2 s12 hq2 => ?_⟩
              · rw [hv] at hoB
                replace hoB : oA = oB := hoB
                subst hoB
                refine ⟨rfl, _, rfl, ?_⟩
                rw [decide_eq_true rfl]
                exact iteF (hJ _ _ ⟨v, rfl, s11.trans s12, dup _ s12⟩)
              · rw [hv] at hoB
                replace hoB : some (1, v2) = oB := hoB
                subst hoB
                refine ⟨rfl, _, rfl, ?_⟩
                rw [decide_eq_false (fun z => nomatch z)]
                refine iteT ⟨_, rfl, x', l', g', rfl, hx9.same (s11.trans s12), by omega, (fun hv' => by rw [hv] at hv'; cases hv'), fun v3 hv3 H13 q3 s13 hq3 => ?_⟩
                rw [hv] at hv3
                cases hv3
                exact hJ _ _ ⟨.ref q3, rfl, (s11.trans s12).trans s13, q3, rfl, hq3⟩
            · rw [decide_eq_false h3]
              rw [if_neg (by omega)] at hoB
              subst hoB
              exact iteF (hJ _ _ ⟨v, rfl, s11, hdu⟩)
          · rintro σ H12 ⟨v, rfl, s12, hdu⟩
            dsimp only [gName, tNext, tSeq]
            refine if_fin (fun σ H' => ∃ v y8, σ = [some (.ref a), some (.ref r), some (.int (0 + (i : Int))), some x', some (.ref t), some (.int place), some (.int (wh : Int)), some v, y8] ∧ Same H9 H' ∧ DueAt H' (outc (wh : Int) g' tp place) v) (fun J hJ => ?_) ?_
            · have dup : ∀ H' , Same H12 H' → DueAt H' oB v := fun H' s => by
                cases oB with
                | none => exact hdu
                | some c => obtain ⟨q0, e1, e2⟩ := hdu; exact ⟨q0, e1, s _ _ e2⟩
              refine ⟨_, rfl, by show 2 ≤ sizeLine; decide, fun tt ntt => ⟨tt, _, rfl, .inr (.inl (.inl upd_same)), rfl, rfl, _, rfl, ?_⟩⟩
              have st := same_upd (o := .tup [.int 1, .int 2]) ntt
              generalize upd H12 tt (.tup [.int 1, .int 2]) = H13 at st
              have skip : (∀ n v, oB = some (n, v) → outc (wh : Int) g' tp place = some (n, v)) → (oB = none → outc (wh : Int) g' tp place = none) → DueAt H13 (outc (wh : Int) g' tp place) v := fun h1 h2 => by
                have hd := dup _ st
                cases oB with
                | none => rw [h2 rfl]; exact hd
                | some c => obtain ⟨n, u⟩ := c; rw [h1 n u rfl]; exact hd
              have hnone : oB = none → wh < 3 → faultR g' = none ∧ isFB tp = true := fun e h3 => by
                rw [if_pos h3] at hoB
                cases hv : faultR g' with
                | some v => rw [hv] at hoB; rw [e] at hoB; cases hoB
                | none =>
                  rw [hv] at hoB
                  replace hoB : oA = oB := hoB
                  rw [e, ← hoA] at hoB
                  cases hF : isFB tp with
                  | true => exact ⟨rfl, rfl⟩
                  | false => rw [hF] at hoB; cases hoB
              rcases (by omega : wh = 0 ∨ wh = 1 ∨ wh = 2 ∨ wh = 3 ∨ wh = 4) with rfl | rfl | rfl | rfl | rfl
              · rw [show (if false = true then !inV (V.int ((0 : Nat) : Int)) [V.int 1, V.int 2] else inV (V.int ((0 : Nat) : Int)) [V.int 1, V.int 2]) = false from by decide]
                refine iteF (iteF (hJ _ _ ⟨v, y8, rfl, s12.trans st, skip (fun n u e => ?_) (fun e => ?_)⟩))
                · subst hoA; rw [e] at hoB; exact outc_some hoB
                · subst hoA; rw [e] at hoB; exact outc_none (by decide) hoB
              · rw [show (if false = true then !inV (V.int ((1 : Nat) : Int)) [V.int 1, V.int 2] else inV (V.int ((1 : Nat) : Int)) [V.int 1, V.int 2]) = true from by decide]
                refine iteT ⟨v, rfl, rfl, _, rfl, ?_⟩
                cases oB with
                | some c =>
                  obtain ⟨c, u⟩ := c
                  have sk := skip (fun n u' e => by subst hoA; rw [← hoB] at e; exact outc_some e) (fun e => nomatch e)
                  obtain ⟨q0, rfl, _⟩ := hdu
                  rw [decide_eq_false (fun z => nomatch z)]
                  exact iteF (hJ _ _ ⟨.ref q0, y8, rfl, s12.trans st, sk⟩)
                | none =>
                  replace hdu : v = .non := hdu
                  subst hdu
                  rw [decide_eq_true rfl]
                  obtain ⟨hfr, hF⟩ := hnone rfl (by omega)
                  refine iteT ?_
                  dsimp only [gName, tNext, tSeq]
                  have hx13 := hx9.same (s12.trans st)
                  have ht13 := (s12.trans st) _ _ ht9
                  have hro : RnOk 111 g' := run_valid hfr hb1 hb2 (by omega)
                  obtain ⟨f, ef, ff, hf, _⟩ : ∃ f : Fm, tpF tp = f ∧ FmAt K H13 (.ref t) f ∧ f.Ok 111 ∧ True := by
                    obtain ⟨f, e1, e2, e3⟩ := form_valid (n := 111) hF fun wd' ns' e x hx => (hbd.f wd' ns' e x hx).1
                    refine ⟨f, tpF_of hF e3, ⟨t, rfl, .inl (.inl ?_)⟩, e2, trivial⟩
                    rw [← e1]
                    exact ht13
                  have ho := outc_place (wh := 1) (p := place) (by decide) hfr hF
                  rw [ef] at ho
                  refine ⟨x', rfl, .ref t, rfl, x', l', g', .ref t, f, 111, rfl, hx13.rn, ff, hro, hf, by decide, by decide, fun va H14 s14 hn14 => ?_⟩
                  refine ⟨x', rfl, (by show 2 ≤ sizeLine; decide), fun tt2 ntt2 => ⟨_, rfl, _, _, rfl, rfl, ?_⟩⟩
                  have sT2 := same_upd (o := .tup [va, x']) ntt2
                  have hT2 : upd H14 tt2 (.tup [va, x']) tt2 = _ := upd_same
                  have s16 := s14.trans sT2
                  obtain ⟨lv, nlv, hv14⟩ := hn14.s
                  have hvr := (hv14.same sT2).rn
                  have hvs := RnSm.mono (m := 400) (RnOk.sm (runAfter_ok hro hf)) (by decide)
                  refine ⟨tt2, _, 0, _, rfl, rfl, .inl (.inl hT2), rfl, ?_⟩
                  refine ⟨_, _, _, 0, 0, 400, rfl, hvr, hvs, ⟨by decide, by decide, Nat.two_pow_pos 400, Nat.two_pow_pos 400⟩, by decide, fun H17 s17 => ?_⟩
                  dsimp only [gName, tNext, tSeq]
                  refine ⟨_, rfl, 0, place, rfl, rfl, ?_⟩
                  refine ⟨_, rfl, ?_⟩
                  have hm : units (runAfter g' f) (Fm.keep 0 0) = bnd ((1 : Nat) : Int) g' f := size_after hro hf
                  rw [← hm] at ho
                  have hS := ((s12.trans st).trans s16).trans s17
                  show (if decide ((0 : Int) ≤ place) = true then _ else _)
                  dsimp only [List.set]
                  generalize units (runAfter g' f) (Fm.keep 0 0) = m at ho
                  by_cases p0 : (0 : Int) ≤ place
                  · rw [decide_eq_true p0]
                    refine iteT ⟨_, rfl, _, _, rfl, rfl, _, rfl, ?_⟩
                    by_cases p1 : place < m
                    · rw [decide_eq_true p1]
                      rw [if_neg (by omega)] at ho
                      refine iteF (hJ _ _ ⟨.non, _, rfl, hS, ?_⟩)
                      rw [ho]
                      rfl
                    · rw [decide_eq_false p1]
                      rw [if_pos (by omega)] at ho
                      refine iteT ⟨_, rfl, by show 2 ≤ sizeLine; decide, fun q1 nq1 => hJ _ _ ⟨.ref q1, _, rfl, hS.trans (same_upd nq1), ?_⟩⟩
                      rw [ho]
                      exact ⟨q1, rfl, upd_same⟩
                  · rw [decide_eq_false p0]
                    rw [if_pos (by omega)] at ho
                    refine iteF ⟨_, rfl, iteT ⟨_, rfl, by show 2 ≤ sizeLine; decide, fun q1 nq1 => hJ _ _ ⟨.ref q1, _, rfl, hS.trans (same_upd nq1), ?_⟩⟩⟩
                    rw [ho]
                    exact ⟨q1, rfl, upd_same⟩
              · rw [show (if false = true then !inV (V.int ((2 : Nat) : Int)) [V.int 1, V.int 2] else inV (V.int ((2 : Nat) : Int)) [V.int 1, V.int 2]) = true from by decide]
                refine iteT ⟨v, rfl, rfl, _, rfl, ?_⟩
                cases oB with
                | some c =>
                  obtain ⟨c, u⟩ := c
                  have sk := skip (fun n u' e => by subst hoA; rw [← hoB] at e; exact outc_some e) (fun e => nomatch e)
                  obtain ⟨q0, rfl, _⟩ := hdu
                  rw [decide_eq_false (fun z => nomatch z)]
                  exact iteF (hJ _ _ ⟨.ref q0, y8, rfl, s12.trans st, sk⟩)
                | none =>
                  replace hdu : v = .non := hdu
                  subst hdu
                  rw [decide_eq_true rfl]
                  obtain ⟨hfr, hF⟩ := hnone rfl (by omega)
                  refine iteT ?_
                  dsimp only [gName, tNext, tSeq]
                  have hx13 := hx9.same (s12.trans st)
                  have ht13 := (s12.trans st) _ _ ht9
                  have hro : RnOk 111 g' := run_valid hfr hb1 hb2 (by omega)
                  obtain ⟨f, ef, ff, hf, _⟩ : ∃ f : Fm, tpF tp = f ∧ FmAt K H13 (.ref t) f ∧ f.Ok 111 ∧ True := by
                    obtain ⟨f, e1, e2, e3⟩ := form_valid (n := 111) hF fun wd' ns' e x hx => (hbd.f wd' ns' e x hx).1
                    refine ⟨f, tpF_of hF e3, ⟨t, rfl, .inl (.inl ?_)⟩, e2, trivial⟩
                    rw [← e1]
                    exact ht13
                  have ho := outc_place (wh := 2) (p := place) (by decide) hfr hF
                  rw [ef] at ho
                  refine ⟨x', rfl, .ref t, rfl, x', l', g', .ref t, f, 111, rfl, hx13.rn, ff, hro, hf, by decide, by decide, fun va H14 s14 hn14 => ?_⟩
                  refine ⟨x', rfl, (by show 2 ≤ sizeLine; decide), fun tt2 ntt2 => ⟨_, rfl, _, _, rfl, rfl, ?_⟩⟩
                  have sT2 := same_upd (o := .tup [va, x']) ntt2
                  have hT2 : upd H14 tt2 (.tup [va, x']) tt2 = _ := upd_same
                  have s16 := s14.trans sT2
                  have hvr := (hx13.same s16).rn
                  have hvs := RnSm.mono (m := 400) (RnOk.sm hro) (by decide)
                  refine ⟨tt2, _, 1, _, rfl, rfl, .inl (.inl hT2), rfl, ?_⟩
                  refine ⟨_, _, _, 0, 0, 400, rfl, hvr, hvs, ⟨by decide, by decide, Nat.two_pow_pos 400, Nat.two_pow_pos 400⟩, by decide, fun H17 s17 => ?_⟩
                  dsimp only [gName, tNext, tSeq]
                  refine ⟨_, rfl, 0, place, rfl, rfl, ?_⟩
                  refine ⟨_, rfl, ?_⟩
                  have hm : units g' (Fm.keep 0 0) = bnd ((2 : Nat) : Int) g' f := (units_nothing (RnOk.sm hro)).symm
                  rw [← hm] at ho
                  have hS := ((s12.trans st).trans s16).trans s17
                  show (if decide ((0 : Int) ≤ place) = true then _ else _)
                  dsimp only [List.set]
                  generalize units (g') (Fm.keep 0 0) = m at ho
                  by_cases p0 : (0 : Int) ≤ place
                  · rw [decide_eq_true p0]
                    refine iteT ⟨_, rfl, _, _, rfl, rfl, _, rfl, ?_⟩
                    by_cases p1 : place < m
                    · rw [decide_eq_true p1]
                      rw [if_neg (by omega)] at ho
                      refine iteF (hJ _ _ ⟨.non, _, rfl, hS, ?_⟩)
                      rw [ho]
                      rfl
                    · rw [decide_eq_false p1]
                      rw [if_pos (by omega)] at ho
                      refine iteT ⟨_, rfl, by show 2 ≤ sizeLine; decide, fun q1 nq1 => hJ _ _ ⟨.ref q1, _, rfl, hS.trans (same_upd nq1), ?_⟩⟩
                      rw [ho]
                      exact ⟨q1, rfl, upd_same⟩
                  · rw [decide_eq_false p0]
                    rw [if_pos (by omega)] at ho
                    refine iteF ⟨_, rfl, iteT ⟨_, rfl, by show 2 ≤ sizeLine; decide, fun q1 nq1 => hJ _ _ ⟨.ref q1, _, rfl, hS.trans (same_upd nq1), ?_⟩⟩⟩
                    rw [ho]
                    exact ⟨q1, rfl, upd_same⟩
              · rw [show (if false = true then !inV (V.int ((3 : Nat) : Int)) [V.int 1, V.int 2] else inV (V.int ((3 : Nat) : Int)) [V.int 1, V.int 2]) = false from by decide]
                refine iteF (iteF (hJ _ _ ⟨v, y8, rfl, s12.trans st, skip (fun n u e => ?_) (fun e => ?_)⟩))
                · subst hoA; rw [e] at hoB; exact outc_some hoB
                · subst hoA; rw [e] at hoB; exact outc_none (by decide) hoB
              · rw [show (if false = true then !inV (V.int ((4 : Nat) : Int)) [V.int 1, V.int 2] else inV (V.int ((4 : Nat) : Int)) [V.int 1, V.int 2]) = false from by decide]
                refine iteF (iteF (hJ _ _ ⟨v, y8, rfl, s12.trans st, skip (fun n u e => ?_) (fun e => ?_)⟩))
                · subst hoA; rw [e] at hoB; exact outc_some hoB
                · subst hoA; rw [e] at hoB; exact outc_none (by decide) hoB
            · rintro σ H13 ⟨v, y8, rfl, s13, hdu⟩
              dsimp only [gName, tNext, tSeq]
              have hx13 := hx9.same s13
              have ht13 := s13 _ _ ht9
              refine ⟨_, rfl, x', rfl, .ref t, rfl, _, rfl, (wh : Int), x', l', t, g', tp, place, rfl, by omega, by omega, hx13, ht13, htp, hbd, fun hn H14 s14 => ?_, fun c u hs H14 q1 s14 hq1 => ?_⟩
              · rw [hn] at hdu
                replace hdu : v = .non := hdu
                subst hdu
                refine ⟨_, rfl, .inr ⟨rfl, _, rfl, ?_⟩⟩
                rw [decide_eq_true rfl]
                exact iteF ⟨_, _, _, rfl, s13.trans s14⟩
              · rw [hs] at hdu
                obtain ⟨p0, rfl, hp0⟩ := hdu
                exact ⟨_, rfl, .inl (dp_ne hq1 (s14 _ _ hp0) (outc_v hs) ⟨_, rfl, iteF ⟨_, _, _, rfl, s13.trans s14⟩⟩)⟩
      · rintro σ H10 ⟨y6, y7, y8, rfl, s10⟩
        exact ⟨_, _, _, _, _, _, _, rfl, (hR9.same s10).mono (goalN _ (by omega))⟩
    · rintro σ H2 ⟨y2, y3, y4, y5, y6, y7, y8, rfl, hR2⟩
      exact q _
end
end Lw
namespace Lw
open PySem PySem.Spec L2 Lx
abbrev sIni (i : Nat) : Stmt := inClass (topS (2 + i)) 0
theorem getD_at {l : List Addr} {i : Nat} (h : i < l.length) : l.getD i 0 = l[i] := by
  rw [List.getD_eq_getElem?_getD, List.getElem?_eq_getElem h]; rfl
theorem sz5 {n : Nat} (h : n ≤ 5) : n ≤ sizeLine := by
  rw [sizeLine_eq]; omega
theorem all_mk {P : Program} {w : World} {K : PySem.W.Frag} {h : Heap} {mg : Str → Option Value} {fa eL e0 e1 e2 e3 e4 e5 e6 e7 ef0 ef1 ef2 ef3 ef4 ef5 ef6 ef7 aL aN fCr fCf fIf fBo fAk fBk fUo fSa fRa fRu fUn fUg fMg fTp fTw fTl fTc fTs fTr fTu fOf fTg fTt fLb fLd fLr fLu fLw fLn fLa fSt fId fUd fSr fLf fSf fLi fLk fLv fW : Addr} (X : K.In h) (G : h.Ns mainGlobals mg) (hfa : mg "law" = some (.ref fa)) (ht : (P.main.scope.names.lookup ("super" : Str)).isSome = false)
    {xnL xqL : Str} {xNL : Addr} {xbsL : List Value} {xsnL : List Str} {xsubL : List Value} {xabL : Bool} {xcolL : Option Bool} {xddL : Option Addr} {xk0L xk1L xk2L xk3L xk5L : Option Value}
    {xn0 xq0 : Str} {xN0 : Addr} {xbs0 : List Value} {xsn0 : List Str} {xsub0 : List Value} {xab0 : Bool} {xcol0 : Option Bool} {xdd0 : Option Addr} {xka0 xkb0 xkc0 xkd0 xke0 : Option Value} {xoc0 xdoc0 xpm0 xct0 xcl0 xce0 : Value} {xod0 xan0 xcdx0 xcf0 : Option Addr} {xcc0 xcda0 : Addr} {xosl0 xcs0 xcg0 : Array (Option Value)} {xvs0 : Array Value} {xtf0 : Tok}
    {xn1 xq1 : Str} {xN1 : Addr} {xbs1 : List Value} {xsn1 : List Str} {xsub1 : List Value} {xab1 : Bool} {xcol1 : Option Bool} {xdd1 : Option Addr} {xka1 xkb1 xkc1 xkd1 xke1 : Option Value} {xoc1 xdoc1 xpm1 xct1 xcl1 xce1 : Value} {xod1 xan1 xcdx1 xcf1 : Option Addr} {xcc1 xcda1 : Addr} {xosl1 xcs1 xcg1 : Array (Option Value)} {xvs1 : Array Value} {xtf1 : Tok}
    {xn2 xq2 : Str} {xN2 : Addr} {xbs2 : List Value} {xsn2 : List Str} {xsub2 : List Value} {xab2 : Bool} {xcol2 : Option Bool} {xdd2 : Option Addr} {xka2 xkb2 xkc2 xkd2 xke2 : Option Value} {xoc2 xdoc2 xpm2 xct2 xcl2 xce2 : Value} {xod2 xan2 xcdx2 xcf2 : Option Addr} {xcc2 xcda2 : Addr} {xosl2 xcs2 xcg2 : Array (Option Value)} {xvs2 : Array Value} {xtf2 : Tok}
    {xn3 xq3 : Str} {xN3 : Addr} {xbs3 : List Value} {xsn3 : List Str} {xsub3 : List Value} {xab3 : Bool} {xcol3 : Option Bool} {xdd3 : Option Addr} {xka3 xkb3 xkc3 xkd3 xke3 : Option Value} {xoc3 xdoc3 xpm3 xct3 xcl3 xce3 : Value} {xod3 xan3 xcdx3 xcf3 : Option Addr} {xcc3 xcda3 : Addr} {xosl3 xcs3 xcg3 : Array (Option Value)} {xvs3 : Array Value} {xtf3 : Tok}
    {xn4 xq4 : Str} {xN4 : Addr} {xbs4 : List Value} {xsn4 : List Str} {xsub4 : List Value} {xab4 : Bool} {xcol4 : Option Bool} {xdd4 : Option Addr} {xka4 xkb4 xkc4 xkd4 xke4 : Option Value} {xoc4 xdoc4 xpm4 xct4 xcl4 xce4 : Value} {xod4 xan4 xcdx4 xcf4 : Option Addr} {xcc4 xcda4 : Addr} {xosl4 xcs4 xcg4 : Array (Option Value)} {xvs4 : Array Value} {xtf4 : Tok}
    {xn5 xq5 : Str} {xN5 : Addr} {xbs5 : List Value} {xsn5 : List Str} {xsub5 : List Value} {xab5 : Bool} {xcol5 : Option Bool} {xdd5 : Option Addr} {xka5 xkb5 xkc5 xkd5 xke5 : Option Value} {xoc5 xdoc5 xpm5 xct5 xcl5 xce5 : Value} {xod5 xan5 xcdx5 xcf5 : Option Addr} {xcc5 xcda5 : Addr} {xosl5 xcs5 xcg5 : Array (Option Value)} {xvs5 : Array Value} {xtf5 : Tok}
    {xn6 xq6 : Str} {xN6 : Addr} {xbs6 : List Value} {xsn6 : List Str} {xsub6 : List Value} {xab6 : Bool} {xcol6 : Option Bool} {xdd6 : Option Addr} {xka6 xkb6 xkc6 xkd6 xke6 : Option Value} {xoc6 xdoc6 xpm6 xct6 xcl6 xce6 : Value} {xod6 xan6 xcdx6 xcf6 : Option Addr} {xcc6 xcda6 : Addr} {xosl6 xcs6 xcg6 : Array (Option Value)} {xvs6 : Array Value} {xtf6 : Tok}
    {xn7 xq7 : Str} {xN7 : Addr} {xbs7 : List Value} {xsn7 : List Str} {xsub7 : List Value} {xab7 : Bool} {xcol7 : Option Bool} {xdd7 : Option Addr} {xka7 xkb7 xkc7 xkd7 xke7 : Option Value} {xoc7 xdoc7 xpm7 xct7 xcl7 xce7 : Value} {xod7 xan7 xcdx7 xcf7 : Option Addr} {xcc7 xcda7 : Addr} {xosl7 xcs7 xcg7 : Array (Option Value)} {xvs7 : Array Value} {xtf7 : Tok}
    {ocCr kVCr docCr pmCr cdCr ctCr : Value} {odCr anCr : Option Addr} {oslCr : Array (Option Value)}
    {ocCf kVCf docCf pmCf cdCf ctCf : Value} {odCf anCf : Option Addr} {oslCf : Array (Option Value)}
    {ocIf kVIf docIf pmIf cdIf ctIf : Value} {odIf anIf : Option Addr} {oslIf : Array (Option Value)}
    {ocBo kVBo docBo pmBo cdBo ctBo : Value} {odBo anBo : Option Addr} {oslBo : Array (Option Value)}
    {ocAk kVAk docAk pmAk cdAk ctAk : Value} {odAk anAk : Option Addr} {oslAk : Array (Option Value)}
    {ocBk kVBk docBk pmBk cdBk ctBk : Value} {odBk anBk : Option Addr} {oslBk : Array (Option Value)}
    {ocUo kVUo docUo pmUo cdUo ctUo : Value} {odUo anUo : Option Addr} {oslUo : Array (Option Value)}
    {ocSa kVSa docSa pmSa cdSa ctSa : Value} {odSa anSa : Option Addr} {oslSa : Array (Option Value)}
    {ocRa kVRa docRa pmRa cdRa ctRa : Value} {odRa anRa : Option Addr} {oslRa : Array (Option Value)}
    {ocRu kVRu docRu pmRu cdRu ctRu : Value} {odRu anRu : Option Addr} {oslRu : Array (Option Value)}
    {ocUn kVUn docUn pmUn cdUn ctUn : Value} {odUn anUn : Option Addr} {oslUn : Array (Option Value)}
    {ocUg kVUg docUg pmUg cdUg ctUg : Value} {odUg anUg : Option Addr} {oslUg : Array (Option Value)}
    {ocMg kVMg docMg pmMg cdMg ctMg : Value} {odMg anMg : Option Addr} {oslMg : Array (Option Value)}
    {ocTp kVTp docTp pmTp cdTp ctTp : Value} {odTp anTp : Option Addr} {oslTp : Array (Option Value)}
    {ocTw kVTw docTw pmTw cdTw ctTw : Value} {odTw anTw : Option Addr} {oslTw : Array (Option Value)}
    {ocTl kVTl docTl pmTl cdTl ctTl : Value} {odTl anTl : Option Addr} {oslTl : Array (Option Value)}
    {ocTc kVTc docTc pmTc cdTc ctTc : Value} {odTc anTc : Option Addr} {oslTc : Array (Option Value)}
    {ocTs kVTs docTs pmTs cdTs ctTs : Value} {odTs anTs : Option Addr} {oslTs : Array (Option Value)}
    {ocTr kVTr docTr pmTr cdTr ctTr : Value} {odTr anTr : Option Addr} {oslTr : Array (Option Value)}
    {ocTu kVTu docTu pmTu cdTu ctTu : Value} {odTu anTu : Option Addr} {oslTu : Array (Option Value)}
    {ocOf kVOf docOf pmOf cdOf ctOf : Value} {odOf anOf : Option Addr} {oslOf : Array (Option Value)}
    {ocTg kVTg docTg pmTg cdTg ctTg : Value} {odTg anTg : Option Addr} {oslTg : Array (Option Value)}
    {ocTt kVTt docTt pmTt cdTt ctTt : Value} {odTt anTt : Option Addr} {oslTt : Array (Option Value)}
    {ocLb kVLb docLb pmLb cdLb ctLb : Value} {odLb anLb : Option Addr} {oslLb : Array (Option Value)}
    {ocLd kVLd docLd pmLd cdLd ctLd : Value} {odLd anLd : Option Addr} {oslLd : Array (Option Value)}
    {ocLr kVLr docLr pmLr cdLr ctLr : Value} {odLr anLr : Option Addr} {oslLr : Array (Option Value)}
    {ocLu kVLu docLu pmLu cdLu ctLu : Value} {odLu anLu : Option Addr} {oslLu : Array (Option Value)}
    {ocLw kVLw docLw pmLw cdLw ctLw : Value} {odLw anLw : Option Addr} {oslLw : Array (Option Value)}
    {ocLn kVLn docLn pmLn cdLn ctLn : Value} {odLn anLn : Option Addr} {oslLn : Array (Option Value)}
    {ocLa kVLa docLa pmLa cdLa ctLa : Value} {odLa anLa : Option Addr} {oslLa : Array (Option Value)}
    {ocSt kVSt docSt pmSt cdSt ctSt : Value} {odSt anSt : Option Addr} {oslSt : Array (Option Value)}
    {ocId kVId docId pmId cdId ctId : Value} {odId anId : Option Addr} {oslId : Array (Option Value)}
    {ocUd kVUd docUd pmUd cdUd ctUd : Value} {odUd anUd : Option Addr} {oslUd : Array (Option Value)}
    {ocSr kVSr docSr pmSr cdSr ctSr : Value} {odSr anSr : Option Addr} {oslSr : Array (Option Value)}
    {ocLf kVLf docLf pmLf cdLf ctLf : Value} {odLf anLf : Option Addr} {oslLf : Array (Option Value)}
    {ocSf kVSf docSf pmSf cdSf ctSf : Value} {odSf anSf : Option Addr} {oslSf : Array (Option Value)}
    {ocLi kVLi docLi pmLi cdLi ctLi : Value} {odLi anLi : Option Addr} {oslLi : Array (Option Value)}
    {ocLk kVLk docLk pmLk cdLk ctLk : Value} {odLk anLk : Option Addr} {oslLk : Array (Option Value)}
    {ocLv kVLv docLv pmLv cdLv ctLv : Value} {odLv anLv : Option Addr} {oslLv : Array (Option Value)}
    {ocW kVW docW pmW cdW ctW : Value} {odW anW : Option Addr} {oslW : Array (Option Value)}
    {t3 t5 t4 : Tok} {esL : Array DictEntry} {nL : Nat}
    {n1 n2 n3 : Tok} {nN : Nat} {odN : Option Addr} {slN : Array (Option Value)}
    (xaL : PySem.W.nsIn K mainGlobals "LineError" = some (some (.ref eL)))
    (xxL : K.lookup eL = some (excClassObj xnL xqL eL xNL xbsL HandSPX.veTail true xsnL xsubL xabL xcolL xddL xk0L xk1L xk2L xk3L xk5L "ValueError.__new__"))
    (xiL : PySem.W.findIn K (.ref eL) "__init__" = some (some (.builtin "ValueError.__init__")))
    (xtL : PySem.W.typeIn K (.ref eL) = some (.type "type"))
    (xeL : PySem.W.subIn K (.ref eL) (.type "BaseException") = some true)
    (xoq : PySem.W.nsIn K cStatics "thirdparty.any" = some none)
    (xsp : PySem.W.specialIn K (.builtin "object.__class__") "__get__" = some (some (.builtin "getset_descriptor.__get__")))
    (xtk : PySem.W.takesIn K (.builtin "object.__class__") = some true)
    (xsup : PySem.W.nsIn K mainGlobals "super" = some none)
    (xa0 : PySem.W.nsIn K mainGlobals "InvalidChain" = some (some (.ref e0)))
    (xx0 : K.lookup e0 = some (excClassObj xn0 xq0 e0 xN0 xbs0 (.ref eL :: HandSPX.veTail) true xsn0 xsub0 xab0 xcol0 xdd0 xka0 xkb0 xkc0 xkd0 xke0 "ValueError.__new__"))
    (xsa0 : PySem.W.findIn K (.ref e0) "__setattr__" = some (some (.builtin "object.__setattr__")))
    (xga0 : PySem.W.findIn K (.ref e0) "__getattribute__" = some (some (.builtin "BaseException.__getattribute__")))
    (xgg0 : PySem.W.findIn K (.ref e0) "__getattr__" = some none)
    (xca0 : PySem.W.findIn K (.ref e0) "__class__" = some (some (.builtin "object.__class__")))
    (xnv0 : PySem.W.findIn K (.ref e0) "value" = some none)
    (xty0 : PySem.W.typeIn K (.ref e0) = some (.type "type"))
    (xkp0 : PySem.W.keepIn K (.ref e0) = true)
    (xi0 : PySem.W.findIn K (.ref e0) "__init__" = some (some (.ref ef0)))
    (xt0 : PySem.W.typeIn K (.ref ef0) = some (.type "function"))
    (xl0 : K.lookup ef0 = some ⟨xoc0, xod0, .func (PySem.W.fnX "__init__" "InvalidChain.__init__" (defArgs (sIni 0)) (defBody (sIni 0)) (defScope (sIni 0)) [("__class__", xcc0)] .none .none xdoc0 xpm0 xan0 (.ref xcda0) xct0), xosl0⟩)
    (xcd0 : PySem.W.codeIn K (.ref xcda0) "InvalidChain.__init__" = true)
    (xv0 : K.lookup xcda0 = some ⟨xcl0, xcdx0, .fields xvs0, xcs0⟩)
    (xw0 : xvs0[2]? = some (.str P.main.file xtf0))
    (xce_0 : K.lookup xcc0 = some ⟨xce0, xcf0, .cell (some (.ref e0)), xcg0⟩)
    (xa1 : PySem.W.nsIn K mainGlobals "InvalidRun" = some (some (.ref e1)))
    (xx1 : K.lookup e1 = some (excClassObj xn1 xq1 e1 xN1 xbs1 (.ref eL :: HandSPX.veTail) true xsn1 xsub1 xab1 xcol1 xdd1 xka1 xkb1 xkc1 xkd1 xke1 "ValueError.__new__"))
    (xsa1 : PySem.W.findIn K (.ref e1) "__setattr__" = some (some (.builtin "object.__setattr__")))
    (xga1 : PySem.W.findIn K (.ref e1) "__getattribute__" = some (some (.builtin "BaseException.__getattribute__")))
    (xgg1 : PySem.W.findIn K (.ref e1) "__getattr__" = some none)
    (xca1 : PySem.W.findIn K (.ref e1) "__class__" = some (some (.builtin "object.__class__")))
    (xnv1 : PySem.W.findIn K (.ref e1) "value" = some none)
    (xty1 : PySem.W.typeIn K (.ref e1) = some (.type "type"))
    (xkp1 : PySem.W.keepIn K (.ref e1) = true)
    (xi1 : PySem.W.findIn K (.ref e1) "__init__" = some (some (.ref ef1)))
    (xt1 : PySem.W.typeIn K (.ref ef1) = some (.type "function"))
    (xl1 : K.lookup ef1 = some ⟨xoc1, xod1, .func (PySem.W.fnX "__init__" "InvalidRun.__init__" (defArgs (sIni 1)) (defBody (sIni 1)) (defScope (sIni 1)) [("__class__", xcc1)] .none .none xdoc1 xpm1 xan1 (.ref xcda1) xct1), xosl1⟩)
    (xcd1 : PySem.W.codeIn K (.ref xcda1) "InvalidRun.__init__" = true)
    (xv1 : K.lookup xcda1 = some ⟨xcl1, xcdx1, .fields xvs1, xcs1⟩)
    (xw1 : xvs1[2]? = some (.str P.main.file xtf1))
    (xce_1 : K.lookup xcc1 = some ⟨xce1, xcf1, .cell (some (.ref e1)), xcg1⟩)
    (xa2 : PySem.W.nsIn K mainGlobals "InvalidForm" = some (some (.ref e2)))
    (xx2 : K.lookup e2 = some (excClassObj xn2 xq2 e2 xN2 xbs2 (.ref eL :: HandSPX.veTail) true xsn2 xsub2 xab2 xcol2 xdd2 xka2 xkb2 xkc2 xkd2 xke2 "ValueError.__new__"))
    (xsa2 : PySem.W.findIn K (.ref e2) "__setattr__" = some (some (.builtin "object.__setattr__")))
    (xga2 : PySem.W.findIn K (.ref e2) "__getattribute__" = some (some (.builtin "BaseException.__getattribute__")))
    (xgg2 : PySem.W.findIn K (.ref e2) "__getattr__" = some none)
    (xca2 : PySem.W.findIn K (.ref e2) "__class__" = some (some (.builtin "object.__class__")))
    (xnv2 : PySem.W.findIn K (.ref e2) "value" = some none)
    (xty2 : PySem.W.typeIn K (.ref e2) = some (.type "type"))
    (xkp2 : PySem.W.keepIn K (.ref e2) = true)
    (xi2 : PySem.W.findIn K (.ref e2) "__init__" = some (some (.ref ef2)))
    (xt2 : PySem.W.typeIn K (.ref ef2) = some (.type "function"))
    (xl2 : K.lookup ef2 = some ⟨xoc2, xod2, .func (PySem.W.fnX "__init__" "InvalidForm.__init__" (defArgs (sIni 2)) (defBody (sIni 2)) (defScope (sIni 2)) [("__class__", xcc2)] .none .none xdoc2 xpm2 xan2 (.ref xcda2) xct2), xosl2⟩)
    (xcd2 : PySem.W.codeIn K (.ref xcda2) "InvalidForm.__init__" = true)
    (xv2 : K.lookup xcda2 = some ⟨xcl2, xcdx2, .fields xvs2, xcs2⟩)
    (xw2 : xvs2[2]? = some (.str P.main.file xtf2))
    (xce_2 : K.lookup xcc2 = some ⟨xce2, xcf2, .cell (some (.ref e2)), xcg2⟩)
    (xa3 : PySem.W.nsIn K mainGlobals "InvalidNumber" = some (some (.ref e3)))
    (xx3 : K.lookup e3 = some (excClassObj xn3 xq3 e3 xN3 xbs3 (.ref eL :: HandSPX.veTail) true xsn3 xsub3 xab3 xcol3 xdd3 xka3 xkb3 xkc3 xkd3 xke3 "ValueError.__new__"))
    (xsa3 : PySem.W.findIn K (.ref e3) "__setattr__" = some (some (.builtin "object.__setattr__")))
    (xga3 : PySem.W.findIn K (.ref e3) "__getattribute__" = some (some (.builtin "BaseException.__getattribute__")))
    (xgg3 : PySem.W.findIn K (.ref e3) "__getattr__" = some none)
    (xca3 : PySem.W.findIn K (.ref e3) "__class__" = some (some (.builtin "object.__class__")))
    (xnv3 : PySem.W.findIn K (.ref e3) "value" = some none)
    (xty3 : PySem.W.typeIn K (.ref e3) = some (.type "type"))
    (xkp3 : PySem.W.keepIn K (.ref e3) = true)
    (xi3 : PySem.W.findIn K (.ref e3) "__init__" = some (some (.ref ef3)))
    (xt3 : PySem.W.typeIn K (.ref ef3) = some (.type "function"))
    (xl3 : K.lookup ef3 = some ⟨xoc3, xod3, .func (PySem.W.fnX "__init__" "InvalidNumber.__init__" (defArgs (sIni 3)) (defBody (sIni 3)) (defScope (sIni 3)) [("__class__", xcc3)] .none .none xdoc3 xpm3 xan3 (.ref xcda3) xct3), xosl3⟩)
    (xcd3 : PySem.W.codeIn K (.ref xcda3) "InvalidNumber.__init__" = true)
    (xv3 : K.lookup xcda3 = some ⟨xcl3, xcdx3, .fields xvs3, xcs3⟩)
    (xw3 : xvs3[2]? = some (.str P.main.file xtf3))
    (xce_3 : K.lookup xcc3 = some ⟨xce3, xcf3, .cell (some (.ref e3)), xcg3⟩)
    (xa4 : PySem.W.nsIn K mainGlobals "InvalidPlace" = some (some (.ref e4)))
    (xx4 : K.lookup e4 = some (excClassObj xn4 xq4 e4 xN4 xbs4 (.ref eL :: HandSPX.veTail) true xsn4 xsub4 xab4 xcol4 xdd4 xka4 xkb4 xkc4 xkd4 xke4 "ValueError.__new__"))
    (xsa4 : PySem.W.findIn K (.ref e4) "__setattr__" = some (some (.builtin "object.__setattr__")))
    (xga4 : PySem.W.findIn K (.ref e4) "__getattribute__" = some (some (.builtin "BaseException.__getattribute__")))
    (xgg4 : PySem.W.findIn K (.ref e4) "__getattr__" = some none)
    (xca4 : PySem.W.findIn K (.ref e4) "__class__" = some (some (.builtin "object.__class__")))
    (xnv4 : PySem.W.findIn K (.ref e4) "value" = some none)
    (xty4 : PySem.W.typeIn K (.ref e4) = some (.type "type"))
    (xkp4 : PySem.W.keepIn K (.ref e4) = true)
    (xi4 : PySem.W.findIn K (.ref e4) "__init__" = some (some (.ref ef4)))
    (xt4 : PySem.W.typeIn K (.ref ef4) = some (.type "function"))
    (xl4 : K.lookup ef4 = some ⟨xoc4, xod4, .func (PySem.W.fnX "__init__" "InvalidPlace.__init__" (defArgs (sIni 4)) (defBody (sIni 4)) (defScope (sIni 4)) [("__class__", xcc4)] .none .none xdoc4 xpm4 xan4 (.ref xcda4) xct4), xosl4⟩)
    (xcd4 : PySem.W.codeIn K (.ref xcda4) "InvalidPlace.__init__" = true)
    (xv4 : K.lookup xcda4 = some ⟨xcl4, xcdx4, .fields xvs4, xcs4⟩)
    (xw4 : xvs4[2]? = some (.str P.main.file xtf4))
    (xce_4 : K.lookup xcc4 = some ⟨xce4, xcf4, .cell (some (.ref e4)), xcg4⟩)
    (xa5 : PySem.W.nsIn K mainGlobals "UnknownName" = some (some (.ref e5)))
    (xx5 : K.lookup e5 = some (excClassObj xn5 xq5 e5 xN5 xbs5 (.ref eL :: HandSPX.veTail) true xsn5 xsub5 xab5 xcol5 xdd5 xka5 xkb5 xkc5 xkd5 xke5 "ValueError.__new__"))
    (xsa5 : PySem.W.findIn K (.ref e5) "__setattr__" = some (some (.builtin "object.__setattr__")))
    (xga5 : PySem.W.findIn K (.ref e5) "__getattribute__" = some (some (.builtin "BaseException.__getattribute__")))
    (xgg5 : PySem.W.findIn K (.ref e5) "__getattr__" = some none)
    (xca5 : PySem.W.findIn K (.ref e5) "__class__" = some (some (.builtin "object.__class__")))
    (xnv5 : PySem.W.findIn K (.ref e5) "value" = some none)
    (xty5 : PySem.W.typeIn K (.ref e5) = some (.type "type"))
    (xkp5 : PySem.W.keepIn K (.ref e5) = true)
    (xi5 : PySem.W.findIn K (.ref e5) "__init__" = some (some (.ref ef5)))
    (xt5 : PySem.W.typeIn K (.ref ef5) = some (.type "function"))
    (xl5 : K.lookup ef5 = some ⟨xoc5, xod5, .func (PySem.W.fnX "__init__" "UnknownName.__init__" (defArgs (sIni 5)) (defBody (sIni 5)) (defScope (sIni 5)) [("__class__", xcc5)] .none .none xdoc5 xpm5 xan5 (.ref xcda5) xct5), xosl5⟩)
    (xcd5 : PySem.W.codeIn K (.ref xcda5) "UnknownName.__init__" = true)
    (xv5 : K.lookup xcda5 = some ⟨xcl5, xcdx5, .fields xvs5, xcs5⟩)
    (xw5 : xvs5[2]? = some (.str P.main.file xtf5))
    (xce_5 : K.lookup xcc5 = some ⟨xce5, xcf5, .cell (some (.ref e5)), xcg5⟩)
    (xa6 : PySem.W.nsIn K mainGlobals "NothingToUndo" = some (some (.ref e6)))
    (xx6 : K.lookup e6 = some (excClassObj xn6 xq6 e6 xN6 xbs6 (.ref eL :: HandSPX.veTail) true xsn6 xsub6 xab6 xcol6 xdd6 xka6 xkb6 xkc6 xkd6 xke6 "ValueError.__new__"))
    (xsa6 : PySem.W.findIn K (.ref e6) "__setattr__" = some (some (.builtin "object.__setattr__")))
    (xga6 : PySem.W.findIn K (.ref e6) "__getattribute__" = some (some (.builtin "BaseException.__getattribute__")))
    (xgg6 : PySem.W.findIn K (.ref e6) "__getattr__" = some none)
    (xca6 : PySem.W.findIn K (.ref e6) "__class__" = some (some (.builtin "object.__class__")))
    (xnv6 : PySem.W.findIn K (.ref e6) "value" = some none)
    (xty6 : PySem.W.typeIn K (.ref e6) = some (.type "type"))
    (xkp6 : PySem.W.keepIn K (.ref e6) = true)
    (xi6 : PySem.W.findIn K (.ref e6) "__init__" = some (some (.ref ef6)))
    (xt6 : PySem.W.typeIn K (.ref ef6) = some (.type "function"))
    (xl6 : K.lookup ef6 = some ⟨xoc6, xod6, .func (PySem.W.fnX "__init__" "NothingToUndo.__init__" (defArgs (sIni 6)) (defBody (sIni 6)) (defScope (sIni 6)) [("__class__", xcc6)] .none .none xdoc6 xpm6 xan6 (.ref xcda6) xct6), xosl6⟩)
    (xcd6 : PySem.W.codeIn K (.ref xcda6) "NothingToUndo.__init__" = true)
    (xv6 : K.lookup xcda6 = some ⟨xcl6, xcdx6, .fields xvs6, xcs6⟩)
    (xw6 : xvs6[2]? = some (.str P.main.file xtf6))
    (xce_6 : K.lookup xcc6 = some ⟨xce6, xcf6, .cell (some (.ref e6)), xcg6⟩)
    (xa7 : PySem.W.nsIn K mainGlobals "Unreadable" = some (some (.ref e7)))
    (xx7 : K.lookup e7 = some (excClassObj xn7 xq7 e7 xN7 xbs7 (.ref eL :: HandSPX.veTail) true xsn7 xsub7 xab7 xcol7 xdd7 xka7 xkb7 xkc7 xkd7 xke7 "ValueError.__new__"))
    (xsa7 : PySem.W.findIn K (.ref e7) "__setattr__" = some (some (.builtin "object.__setattr__")))
    (xga7 : PySem.W.findIn K (.ref e7) "__getattribute__" = some (some (.builtin "BaseException.__getattribute__")))
    (xgg7 : PySem.W.findIn K (.ref e7) "__getattr__" = some none)
    (xca7 : PySem.W.findIn K (.ref e7) "__class__" = some (some (.builtin "object.__class__")))
    (xnv7 : PySem.W.findIn K (.ref e7) "value" = some none)
    (xty7 : PySem.W.typeIn K (.ref e7) = some (.type "type"))
    (xkp7 : PySem.W.keepIn K (.ref e7) = true)
    (xi7 : PySem.W.findIn K (.ref e7) "__init__" = some (some (.ref ef7)))
    (xt7 : PySem.W.typeIn K (.ref ef7) = some (.type "function"))
    (xl7 : K.lookup ef7 = some ⟨xoc7, xod7, .func (PySem.W.fnX "__init__" "Unreadable.__init__" (defArgs (sIni 7)) (defBody (sIni 7)) (defScope (sIni 7)) [("__class__", xcc7)] .none .none xdoc7 xpm7 xan7 (.ref xcda7) xct7), xosl7⟩)
    (xcd7 : PySem.W.codeIn K (.ref xcda7) "Unreadable.__init__" = true)
    (xv7 : K.lookup xcda7 = some ⟨xcl7, xcdx7, .fields xvs7, xcs7⟩)
    (xw7 : xvs7[2]? = some (.str P.main.file xtf7))
    (xce_7 : K.lookup xcc7 = some ⟨xce7, xcf7, .cell (some (.ref e7)), xcg7⟩)
    (xnd : ([e0, e1, e2, e3, e4, e5, e6, e7] : List Addr).Nodup)
    (xnl : ∀ c ∈ ([e0, e1, e2, e3, e4, e5, e6, e7] : List Addr), c ≠ eL)
    (aCr : PySem.W.nsIn K mainGlobals "check_run" = some (some (.ref fCr)))
    (lCr : K.lookup fCr = some ⟨ocCr, odCr, .func (PySem.W.fnOf "check_run" "check_run" (defArgs sChkRun) (defBody sChkRun) (defScope sChkRun) .none kVCr docCr pmCr anCr cdCr ctCr), oslCr⟩)
    (c_Cr : PySem.W.codeIn K cdCr "check_run" = true)
    (k_Cr : PySem.W.keepIn K (.ref fCr) = true)
    (aCf : PySem.W.nsIn K mainGlobals "check_form" = some (some (.ref fCf)))
    (lCf : K.lookup fCf = some ⟨ocCf, odCf, .func (PySem.W.fnOf "check_form" "check_form" (defArgs sChkForm) (defBody sChkForm) (defScope sChkForm) .none kVCf docCf pmCf anCf cdCf ctCf), oslCf⟩)
    (c_Cf : PySem.W.codeIn K cdCf "check_form" = true)
    (k_Cf : PySem.W.keepIn K (.ref fCf) = true)
    (aIf : PySem.W.nsIn K mainGlobals "is_form" = some (some (.ref fIf)))
    (lIf : K.lookup fIf = some ⟨ocIf, odIf, .func (PySem.W.fnOf "is_form" "is_form" (defArgs sIsForm) (defBody sIsForm) (defScope sIsForm) .none kVIf docIf pmIf anIf cdIf ctIf), oslIf⟩)
    (c_If : PySem.W.codeIn K cdIf "is_form" = true)
    (k_If : PySem.W.keepIn K (.ref fIf) = true)
    (aBo : PySem.W.nsIn K mainGlobals "form_of_both" = some (some (.ref fBo)))
    (lBo : K.lookup fBo = some ⟨ocBo, odBo, .func (PySem.W.fnOf "form_of_both" "form_of_both" (defArgs sBoth) (defBody sBoth) (defScope sBoth) .none kVBo docBo pmBo anBo cdBo ctBo), oslBo⟩)
    (c_Bo : PySem.W.codeIn K cdBo "form_of_both" = true)
    (k_Bo : PySem.W.keepIn K (.ref fBo) = true)
    (aAk : PySem.W.nsIn K mainGlobals "after_keep" = some (some (.ref fAk)))
    (lAk : K.lookup fAk = some ⟨ocAk, odAk, .func (PySem.W.fnOf "after_keep" "after_keep" (defArgs sAftKeep) (defBody sAftKeep) (defScope sAftKeep) .none kVAk docAk pmAk anAk cdAk ctAk), oslAk⟩)
    (c_Ak : PySem.W.codeIn K cdAk "after_keep" = true)
    (k_Ak : PySem.W.keepIn K (.ref fAk) = true)
    (aBk : PySem.W.nsIn K mainGlobals "before_keep" = some (some (.ref fBk)))
    (lBk : K.lookup fBk = some ⟨ocBk, odBk, .func (PySem.W.fnOf "before_keep" "before_keep" (defArgs sBefKeep) (defBody sBefKeep) (defScope sBefKeep) .none kVBk docBk pmBk anBk cdBk ctBk), oslBk⟩)
    (c_Bk : PySem.W.codeIn K cdBk "before_keep" = true)
    (k_Bk : PySem.W.keepIn K (.ref fBk) = true)
    (aUo : PySem.W.nsIn K mainGlobals "units_of_one" = some (some (.ref fUo)))
    (lUo : K.lookup fUo = some ⟨ocUo, odUo, .func (PySem.W.fnOf "units_of_one" "units_of_one" (defArgs sOne) (defBody sOne) (defScope sOne) .none kVUo docUo pmUo anUo cdUo ctUo), oslUo⟩)
    (c_Uo : PySem.W.codeIn K cdUo "units_of_one" = true)
    (k_Uo : PySem.W.keepIn K (.ref fUo) = true)
    (aSa : PySem.W.nsIn K mainGlobals "signs_after" = some (some (.ref fSa)))
    (lSa : K.lookup fSa = some ⟨ocSa, odSa, .func (PySem.W.fnOf "signs_after" "signs_after" (defArgs sSigns) (defBody sSigns) (defScope sSigns) .none kVSa docSa pmSa anSa cdSa ctSa), oslSa⟩)
    (c_Sa : PySem.W.codeIn K cdSa "signs_after" = true)
    (k_Sa : PySem.W.keepIn K (.ref fSa) = true)
    (aRa : PySem.W.nsIn K mainGlobals "run_after" = some (some (.ref fRa)))
    (lRa : K.lookup fRa = some ⟨ocRa, odRa, .func (PySem.W.fnOf "run_after" "run_after" (defArgs sRunAft) (defBody sRunAft) (defScope sRunAft) .none kVRa docRa pmRa anRa cdRa ctRa), oslRa⟩)
    (c_Ra : PySem.W.codeIn K cdRa "run_after" = true)
    (k_Ra : PySem.W.keepIn K (.ref fRa) = true)
    (aRu : PySem.W.nsIn K mainGlobals "run_of_units" = some (some (.ref fRu)))
    (lRu : K.lookup fRu = some ⟨ocRu, odRu, .func (PySem.W.fnOf "run_of_units" "run_of_units" (defArgs sRou) (defBody sRou) (defScope sRou) .none kVRu docRu pmRu anRu cdRu ctRu), oslRu⟩)
    (c_Ru : PySem.W.codeIn K cdRu "run_of_units" = true)
    (k_Ru : PySem.W.keepIn K (.ref fRu) = true)
    (aUn : PySem.W.nsIn K mainGlobals "units" = some (some (.ref fUn)))
    (lUn : K.lookup fUn = some ⟨ocUn, odUn, .func (PySem.W.fnOf "units" "units" (defArgs sUnits) (defBody sUnits) (defScope sUnits) .none kVUn docUn pmUn anUn cdUn ctUn), oslUn⟩)
    (c_Un : PySem.W.codeIn K cdUn "units" = true)
    (k_Un : PySem.W.keepIn K (.ref fUn) = true)
    (aUg : PySem.W.nsIn K mainGlobals "units_of_group" = some (some (.ref fUg)))
    (lUg : K.lookup fUg = some ⟨ocUg, odUg, .func (PySem.W.fnOf "units_of_group" "units_of_group" (defArgs sUog) (defBody sUog) (defScope sUog) .none kVUg docUg pmUg anUg cdUg ctUg), oslUg⟩)
    (c_Ug : PySem.W.codeIn K cdUg "units_of_group" = true)
    (k_Ug : PySem.W.keepIn K (.ref fUg) = true)
    (aMg : PySem.W.nsIn K mainGlobals "merged_groups" = some (some (.ref fMg)))
    (lMg : K.lookup fMg = some ⟨ocMg, odMg, .func (PySem.W.fnOf "merged_groups" "merged_groups" (defArgs sMerged) (defBody sMerged) (defScope sMerged) .none kVMg docMg pmMg anMg cdMg ctMg), oslMg⟩)
    (c_Mg : PySem.W.codeIn K cdMg "merged_groups" = true)
    (k_Mg : PySem.W.keepIn K (.ref fMg) = true)
    (aTp : PySem.W.nsIn K mainGlobals "check_place" = some (some (.ref fTp)))
    (lTp : K.lookup fTp = some ⟨ocTp, odTp, .func (PySem.W.fnOf "check_place" "check_place" (defArgs sCheckPlace) (defBody sCheckPlace) (defScope sCheckPlace) .none kVTp docTp pmTp anTp cdTp ctTp), oslTp⟩)
    (c_Tp : PySem.W.codeIn K cdTp "check_place" = true)
    (k_Tp : PySem.W.keepIn K (.ref fTp) = true)
    (aTw : PySem.W.nsIn K mainGlobals "characters_of_unit" = some (some (.ref fTw)))
    (lTw : K.lookup fTw = some ⟨ocTw, odTw, .func (PySem.W.fnOf "characters_of_unit" "characters_of_unit" (defArgs sCharactersOfUnit) (defBody sCharactersOfUnit) (defScope sCharactersOfUnit) .none kVTw docTw pmTw anTw cdTw ctTw), oslTw⟩)
    (c_Tw : PySem.W.codeIn K cdTw "characters_of_unit" = true)
    (k_Tw : PySem.W.keepIn K (.ref fTw) = true)
    (aTl : PySem.W.nsIn K mainGlobals "lengths_after" = some (some (.ref fTl)))
    (lTl : K.lookup fTl = some ⟨ocTl, odTl, .func (PySem.W.fnOf "lengths_after" "lengths_after" (defArgs sLengthsAfter) (defBody sLengthsAfter) (defScope sLengthsAfter) .none kVTl docTl pmTl anTl cdTl ctTl), oslTl⟩)
    (c_Tl : PySem.W.codeIn K cdTl "lengths_after" = true)
    (k_Tl : PySem.W.keepIn K (.ref fTl) = true)
    (aTc : PySem.W.nsIn K mainGlobals "located" = some (some (.ref fTc)))
    (lTc : K.lookup fTc = some ⟨ocTc, odTc, .func (PySem.W.fnOf "located" "located" (defArgs sLocated) (defBody sLocated) (defScope sLocated) .none kVTc docTc pmTc anTc cdTc ctTc), oslTc⟩)
    (c_Tc : PySem.W.codeIn K cdTc "located" = true)
    (k_Tc : PySem.W.keepIn K (.ref fTc) = true)
    (aTs : PySem.W.nsIn K mainGlobals "start_of" = some (some (.ref fTs)))
    (lTs : K.lookup fTs = some ⟨ocTs, odTs, .func (PySem.W.fnOf "start_of" "start_of" (defArgs sStartOf) (defBody sStartOf) (defScope sStartOf) .none kVTs docTs pmTs anTs cdTs ctTs), oslTs⟩)
    (c_Ts : PySem.W.codeIn K cdTs "start_of" = true)
    (k_Ts : PySem.W.keepIn K (.ref fTs) = true)
    (aTr : PySem.W.nsIn K mainGlobals "returns_left" = some (some (.ref fTr)))
    (lTr : K.lookup fTr = some ⟨ocTr, odTr, .func (PySem.W.fnOf "returns_left" "returns_left" (defArgs sReturnsLeft) (defBody sReturnsLeft) (defScope sReturnsLeft) .none kVTr docTr pmTr anTr cdTr ctTr), oslTr⟩)
    (c_Tr : PySem.W.codeIn K cdTr "returns_left" = true)
    (k_Tr : PySem.W.keepIn K (.ref fTr) = true)
    (aTu : PySem.W.nsIn K mainGlobals "units_in_group" = some (some (.ref fTu)))
    (lTu : K.lookup fTu = some ⟨ocTu, odTu, .func (PySem.W.fnOf "units_in_group" "units_in_group" (defArgs sUnitsInGroup) (defBody sUnitsInGroup) (defScope sUnitsInGroup) .none kVTu docTu pmTu anTu cdTu ctTu), oslTu⟩)
    (c_Tu : PySem.W.codeIn K cdTu "units_in_group" = true)
    (k_Tu : PySem.W.keepIn K (.ref fTu) = true)
    (aOf : PySem.W.nsIn K mainGlobals "offspring" = some (some (.ref fOf)))
    (lOf : K.lookup fOf = some ⟨ocOf, odOf, .func (PySem.W.fnOf "offspring" "offspring" (defArgs sOffspring) (defBody sOffspring) (defScope sOffspring) .none kVOf docOf pmOf anOf cdOf ctOf), oslOf⟩)
    (c_Of : PySem.W.codeIn K cdOf "offspring" = true)
    (k_Of : PySem.W.keepIn K (.ref fOf) = true)
    (aTg : PySem.W.nsIn K mainGlobals "origin_in_group" = some (some (.ref fTg)))
    (lTg : K.lookup fTg = some ⟨ocTg, odTg, .func (PySem.W.fnOf "origin_in_group" "origin_in_group" (defArgs sOriginInGroup) (defBody sOriginInGroup) (defScope sOriginInGroup) .none kVTg docTg pmTg anTg cdTg ctTg), oslTg⟩)
    (c_Tg : PySem.W.codeIn K cdTg "origin_in_group" = true)
    (k_Tg : PySem.W.keepIn K (.ref fTg) = true)
    (aTt : PySem.W.nsIn K mainGlobals "trace" = some (some (.ref fTt)))
    (lTt : K.lookup fTt = some ⟨ocTt, odTt, .func (PySem.W.fnOf "trace" "trace" (defArgs sTrace) (defBody sTrace) (defScope sTrace) .none kVTt docTt pmTt anTt cdTt ctTt), oslTt⟩)
    (c_Tt : PySem.W.codeIn K cdTt "trace" = true)
    (k_Tt : PySem.W.keepIn K (.ref fTt) = true)
    (aLb : PySem.W.nsIn K mainGlobals "_law_bag" = some (some (.ref fLb)))
    (lLb : K.lookup fLb = some ⟨ocLb, odLb, .func (PySem.W.fnOf "_law_bag" "_law_bag" (defArgs sLBag) (defBody sLBag) (defScope sLBag) .none kVLb docLb pmLb anLb cdLb ctLb), oslLb⟩)
    (c_Lb : PySem.W.codeIn K cdLb "_law_bag" = true)
    (k_Lb : PySem.W.keepIn K (.ref fLb) = true)
    (aLd : PySem.W.nsIn K mainGlobals "_law_draw" = some (some (.ref fLd)))
    (lLd : K.lookup fLd = some ⟨ocLd, odLd, .func (PySem.W.fnOf "_law_draw" "_law_draw" (defArgs sLDraw) (defBody sLDraw) (defScope sLDraw) .none kVLd docLd pmLd anLd cdLd ctLd), oslLd⟩)
    (c_Ld : PySem.W.codeIn K cdLd "_law_draw" = true)
    (k_Ld : PySem.W.keepIn K (.ref fLd) = true)
    (aLr : PySem.W.nsIn K mainGlobals "_law_reduced" = some (some (.ref fLr)))
    (lLr : K.lookup fLr = some ⟨ocLr, odLr, .func (PySem.W.fnOf "_law_reduced" "_law_reduced" (defArgs sLReduced) (defBody sLReduced) (defScope sLReduced) .none kVLr docLr pmLr anLr cdLr ctLr), oslLr⟩)
    (c_Lr : PySem.W.codeIn K cdLr "_law_reduced" = true)
    (k_Lr : PySem.W.keepIn K (.ref fLr) = true)
    (aLu : PySem.W.nsIn K mainGlobals "_law_run" = some (some (.ref fLu)))
    (lLu : K.lookup fLu = some ⟨ocLu, odLu, .func (PySem.W.fnOf "_law_run" "_law_run" (defArgs sLRun) (defBody sLRun) (defScope sLRun) .none kVLu docLu pmLu anLu cdLu ctLu), oslLu⟩)
    (c_Lu : PySem.W.codeIn K cdLu "_law_run" = true)
    (k_Lu : PySem.W.keepIn K (.ref fLu) = true)
    (aLw : PySem.W.nsIn K mainGlobals "_law_any_wanted" = some (some (.ref fLw)))
    (lLw : K.lookup fLw = some ⟨ocLw, odLw, .func (PySem.W.fnOf "_law_any_wanted" "_law_any_wanted" (defArgs sLAnyWanted) (defBody sLAnyWanted) (defScope sLAnyWanted) .none kVLw docLw pmLw anLw cdLw ctLw), oslLw⟩)
    (c_Lw : PySem.W.codeIn K cdLw "_law_any_wanted" = true)
    (k_Lw : PySem.W.keepIn K (.ref fLw) = true)
    (aLn : PySem.W.nsIn K mainGlobals "_law_units" = some (some (.ref fLn)))
    (lLn : K.lookup fLn = some ⟨ocLn, odLn, .func (PySem.W.fnOf "_law_units" "_law_units" (defArgs sLUnits) (defBody sLUnits) (defScope sLUnits) .none kVLn docLn pmLn anLn cdLn ctLn), oslLn⟩)
    (c_Ln : PySem.W.codeIn K cdLn "_law_units" = true)
    (k_Ln : PySem.W.keepIn K (.ref fLn) = true)
    (aLa : PySem.W.nsIn K mainGlobals "_law_after" = some (some (.ref fLa)))
    (lLa : K.lookup fLa = some ⟨ocLa, odLa, .func (PySem.W.fnOf "_law_after" "_law_after" (defArgs sLAfter) (defBody sLAfter) (defScope sLAfter) .none kVLa docLa pmLa anLa cdLa ctLa), oslLa⟩)
    (c_La : PySem.W.codeIn K cdLa "_law_after" = true)
    (k_La : PySem.W.keepIn K (.ref fLa) = true)
    (aSt : PySem.W.nsIn K mainGlobals "stays" = some (some (.ref fSt)))
    (lSt : K.lookup fSt = some ⟨ocSt, odSt, .func (PySem.W.fnOf "stays" "stays" (defArgs sStays) (defBody sStays) (defScope sStays) .none kVSt docSt pmSt anSt cdSt ctSt), oslSt⟩)
    (c_St : PySem.W.codeIn K cdSt "stays" = true)
    (k_St : PySem.W.keepIn K (.ref fSt) = true)
    (aId : PySem.W.nsIn K mainGlobals "is_idempotent" = some (some (.ref fId)))
    (lId : K.lookup fId = some ⟨ocId, odId, .func (PySem.W.fnOf "is_idempotent" "is_idempotent" (defArgs sIdem) (defBody sIdem) (defScope sIdem) .none kVId docId pmId anId cdId ctId), oslId⟩)
    (c_Id : PySem.W.codeIn K cdId "is_idempotent" = true)
    (k_Id : PySem.W.keepIn K (.ref fId) = true)
    (aUd : PySem.W.nsIn K mainGlobals "undoing" = some (some (.ref fUd)))
    (lUd : K.lookup fUd = some ⟨ocUd, odUd, .func (PySem.W.fnOf "undoing" "undoing" (defArgs sUndoing) (defBody sUndoing) (defScope sUndoing) .none kVUd docUd pmUd anUd cdUd ctUd), oslUd⟩)
    (c_Ud : PySem.W.codeIn K cdUd "undoing" = true)
    (k_Ud : PySem.W.keepIn K (.ref fUd) = true)
    (aSr : PySem.W.nsIn K mainGlobals "_law_spoilt_run" = some (some (.ref fSr)))
    (lSr : K.lookup fSr = some ⟨ocSr, odSr, .func (PySem.W.fnOf "_law_spoilt_run" "_law_spoilt_run" (defArgs sLSpoiltRun) (defBody sLSpoiltRun) (defScope sLSpoiltRun) .none kVSr docSr pmSr anSr cdSr ctSr), oslSr⟩)
    (c_Sr : PySem.W.codeIn K cdSr "_law_spoilt_run" = true)
    (k_Sr : PySem.W.keepIn K (.ref fSr) = true)
    (aLf : PySem.W.nsIn K mainGlobals "_law_run_fault" = some (some (.ref fLf)))
    (lLf : K.lookup fLf = some ⟨ocLf, odLf, .func (PySem.W.fnOf "_law_run_fault" "_law_run_fault" (defArgs sLRunFault) (defBody sLRunFault) (defScope sLRunFault) .none kVLf docLf pmLf anLf cdLf ctLf), oslLf⟩)
    (c_Lf : PySem.W.codeIn K cdLf "_law_run_fault" = true)
    (k_Lf : PySem.W.keepIn K (.ref fLf) = true)
    (aSf : PySem.W.nsIn K mainGlobals "_law_spoilt_form" = some (some (.ref fSf)))
    (lSf : K.lookup fSf = some ⟨ocSf, odSf, .func (PySem.W.fnOf "_law_spoilt_form" "_law_spoilt_form" (defArgs sLSpoiltForm) (defBody sLSpoiltForm) (defScope sLSpoiltForm) .none kVSf docSf pmSf anSf cdSf ctSf), oslSf⟩)
    (c_Sf : PySem.W.codeIn K cdSf "_law_spoilt_form" = true)
    (k_Sf : PySem.W.keepIn K (.ref fSf) = true)
    (aLi : PySem.W.nsIn K mainGlobals "_law_is_form" = some (some (.ref fLi)))
    (lLi : K.lookup fLi = some ⟨ocLi, odLi, .func (PySem.W.fnOf "_law_is_form" "_law_is_form" (defArgs sLIsForm) (defBody sLIsForm) (defScope sLIsForm) .none kVLi docLi pmLi anLi cdLi ctLi), oslLi⟩)
    (c_Li : PySem.W.codeIn K cdLi "_law_is_form" = true)
    (k_Li : PySem.W.keepIn K (.ref fLi) = true)
    (aLk : PySem.W.nsIn K mainGlobals "_law_kind" = some (some (.ref fLk)))
    (lLk : K.lookup fLk = some ⟨ocLk, odLk, .func (PySem.W.fnOf "_law_kind" "_law_kind" (defArgs sLKind) (defBody sLKind) (defScope sLKind) .none kVLk docLk pmLk anLk cdLk ctLk), oslLk⟩)
    (c_Lk : PySem.W.codeIn K cdLk "_law_kind" = true)
    (k_Lk : PySem.W.keepIn K (.ref fLk) = true)
    (aLv : PySem.W.nsIn K mainGlobals "_law_caught" = some (some (.ref fLv)))
    (lLv : K.lookup fLv = some ⟨ocLv, odLv, .func (PySem.W.fnOf "_law_caught" "_law_caught" (defArgs sLCaught) (defBody sLCaught) (defScope sLCaught) .none kVLv docLv pmLv anLv cdLv ctLv), oslLv⟩)
    (c_Lv : PySem.W.codeIn K cdLv "_law_caught" = true)
    (k_Lv : PySem.W.keepIn K (.ref fLv) = true)
    (aW : PySem.W.nsIn K mainGlobals "law" = some (some (.ref fW)))
    (lW : K.lookup fW = some ⟨ocW, odW, .func (PySem.W.fnOf "law" "law" (defArgs sLaw) (defBody sLaw) (defScope sLaw) .none kVW docW pmW anW cdW ctW), oslW⟩)
    (c_W : PySem.W.codeIn K cdW "law" = true)
    (k_W : PySem.W.keepIn K (.ref fW) = true)
    (z_abs : PySem.W.nsIn K mainGlobals "abs" = some none)
    (z_divmod : PySem.W.nsIn K mainGlobals "divmod" = some none)
    (z_enumerate : PySem.W.nsIn K mainGlobals "enumerate" = some none)
    (z_len : PySem.W.nsIn K mainGlobals "len" = some none)
    (z_list : PySem.W.nsIn K mainGlobals "list" = some none)
    (z_max : PySem.W.nsIn K mainGlobals "max" = some none)
    (z_min : PySem.W.nsIn K mainGlobals "min" = some none)
    (z_range : PySem.W.nsIn K mainGlobals "range" = some none)
    (z_sum : PySem.W.nsIn K mainGlobals "sum" = some none)
    (z_tuple : PySem.W.nsIn K mainGlobals "tuple" = some none)
    (z_zip : PySem.W.nsIn K mainGlobals "zip" = some none)
    (z_isinstance : PySem.W.nsIn K mainGlobals "isinstance" = some none)
    (z_ValueError : PySem.W.nsIn K mainGlobals "ValueError" = some none)
    (gL : PySem.W.nsIn K mainGlobals "FORM_LENGTHS" = some (some (.ref aL)))
    (hL : K.lookup aL = some ⟨.type "dict", none, .dict esL nL, #[]⟩)
    (kL : PySem.W.KeysLit w.params esL.toList)
    (mL : (aL == sysModules) = false)
    (vL3 : PySem.W.nsIn K aL "keep" = some (some (.int 3 t3)))
    (vL5 : PySem.W.nsIn K aL "lf" = some (some (.int 5 t5)))
    (vL4 : PySem.W.nsIn K aL "cr" = some (some (.int 4 t4)))
    (gN : PySem.W.nsIn K mainGlobals "NOTHING" = some (some (.ref aN)))
    (hN : K.lookup aN = some ⟨.type "tuple", odN, .seq #[.str "keep" n1, .int 0 n2, .int 0 n3] nN, slN⟩)
    (xkept : PySem.W.nsIn K aL "kept" = some none) :
    ∃ fd : FuncData, (∀ (s : Shared) (v : Value), BindsTo s fd ⟨[v], []⟩ [("script", v)]) ∧ ∀ base : Heap, K.In base → base.Ns mainGlobals mg → FnG P w K mg base CX0 7 fa fd ["script"] (spLaw K) := by
  have e := hfa.symm.trans (PySem.W.mg_of X G aW)
  cases e
  have FCr := fun_mk (st := sChkRun) lCr c_Cr k_Cr
  have bCr := FCr.binds (ps := ["run"]) fun _ _ _ _ _ _ us hl => match us, hl with | [_], _ => rfl
  have gCr' := PySem.W.mg_of X G aCr
  have FCf := fun_mk (st := sChkForm) lCf c_Cf k_Cf
  have bCf := FCf.binds (ps := ["wanted"]) fun _ _ _ _ _ _ us hl => match us, hl with | [_], _ => rfl
  have gCf' := PySem.W.mg_of X G aCf
  have FIf := fun_mk (st := sIsForm) lIf c_If k_If
  have bIf := FIf.binds (ps := ["wanted"]) fun _ _ _ _ _ _ us hl => match us, hl with | [_], _ => rfl
  have gIf' := PySem.W.mg_of X G aIf
  have FBo := fun_mk (st := sBoth) lBo c_Bo k_Bo
  have bBo := FBo.binds (ps := ["first", "second"]) fun _ _ _ _ _ _ us hl => match us, hl with | [_, _], _ => rfl
  have gBo' := PySem.W.mg_of X G aBo
  have FAk := fun_mk (st := sAftKeep) lAk c_Ak k_Ak
  have bAk := FAk.binds (ps := ["first", "second"]) fun _ _ _ _ _ _ us hl => match us, hl with | [_, _], _ => rfl
  have gAk' := PySem.W.mg_of X G aAk
  have FBk := fun_mk (st := sBefKeep) lBk c_Bk k_Bk
  have bBk := FBk.binds (ps := ["first", "second"]) fun _ _ _ _ _ _ us hl => match us, hl with | [_, _], _ => rfl
  have gBk' := PySem.W.mg_of X G aBk
  have FUo := fun_mk (st := sOne) lUo c_Uo k_Uo
  have bUo := FUo.binds (ps := ["first", "second"]) fun _ _ _ _ _ _ us hl => match us, hl with | [_, _], _ => rfl
  have gUo' := PySem.W.mg_of X G aUo
  have FSa := fun_mk (st := sSigns) lSa c_Sa k_Sa
  have bSa := FSa.binds (ps := ["j", "wanted"]) fun _ _ _ _ _ _ us hl => match us, hl with | [_, _], _ => rfl
  have gSa' := PySem.W.mg_of X G aSa
  have FRa := fun_mk (st := sRunAft) lRa c_Ra k_Ra
  have bRa := FRa.binds (ps := ["run", "wanted"]) fun _ _ _ _ _ _ us hl => match us, hl with | [_, _], _ => rfl
  have gRa' := PySem.W.mg_of X G aRa
  have FRu := fun_mk (st := sRou) lRu c_Ru k_Ru
  have bRu := FRu.binds (ps := ["total", "wanted"]) fun _ _ _ _ _ _ us hl => match us, hl with | [_, _], _ => rfl
  have gRu' := PySem.W.mg_of X G aRu
  have FUn := fun_mk (st := sUnits) lUn c_Un k_Un
  have bUn := FUn.binds (ps := ["run", "wanted"]) fun _ _ _ _ _ _ us hl => match us, hl with | [_, _], _ => rfl
  have gUn' := PySem.W.mg_of X G aUn
  have FUg := fun_mk (st := sUog) lUg c_Ug k_Ug
  have bUg := FUg.binds (ps := ["j", "wanted"]) fun _ _ _ _ _ _ us hl => match us, hl with | [_, _], _ => rfl
  have gUg' := PySem.W.mg_of X G aUg
  have FMg := fun_mk (st := sMerged) lMg c_Mg k_Mg
  have bMg := FMg.binds (ps := ["groups"]) fun _ _ _ _ _ _ us hl => match us, hl with | [_], _ => rfl
  have gMg' := PySem.W.mg_of X G aMg
  have FTp := fun_mk (st := sCheckPlace) lTp c_Tp k_Tp
  have bTp := FTp.binds (ps := ["place", "total"]) fun _ _ _ _ _ _ us hl => match us, hl with | [_, _], _ => rfl
  have gTp' := PySem.W.mg_of X G aTp
  have FTw := fun_mk (st := sCharactersOfUnit) lTw c_Tw k_Tw
  have bTw := FTw.binds (ps := ["wanted"]) fun _ _ _ _ _ _ us hl => match us, hl with | [_], _ => rfl
  have gTw' := PySem.W.mg_of X G aTw
  have FTl := fun_mk (st := sLengthsAfter) lTl c_Tl k_Tl
  have bTl := FTl.binds (ps := ["groups", "wanted"]) fun _ _ _ _ _ _ us hl => match us, hl with | [_, _], _ => rfl
  have gTl' := PySem.W.mg_of X G aTl
  have FTc := fun_mk (st := sLocated) lTc c_Tc k_Tc
  have bTc := FTc.binds (ps := ["groups", "lengths", "place"]) fun _ _ _ _ _ _ us hl => match us, hl with | [_, _, _], _ => rfl
  have gTc' := PySem.W.mg_of X G aTc
  have FTs := fun_mk (st := sStartOf) lTs c_Ts k_Ts
  have bTs := FTs.binds (ps := ["groups", "lengths", "at", "number"]) fun _ _ _ _ _ _ us hl => match us, hl with | [_, _, _, _], _ => rfl
  have gTs' := PySem.W.mg_of X G aTs
  have FTr := fun_mk (st := sReturnsLeft) lTr c_Tr k_Tr
  have bTr := FTr.binds (ps := ["j", "wanted"]) fun _ _ _ _ _ _ us hl => match us, hl with | [_, _], _ => rfl
  have gTr' := PySem.W.mg_of X G aTr
  have FTu := fun_mk (st := sUnitsInGroup) lTu c_Tu k_Tu
  have bTu := FTu.binds (ps := ["j", "wanted", "place"]) fun _ _ _ _ _ _ us hl => match us, hl with | [_, _, _], _ => rfl
  have gTu' := PySem.W.mg_of X G aTu
  have FOf := fun_mk (st := sOffspring) lOf c_Of k_Of
  have bOf := FOf.binds (ps := ["run", "wanted", "place"]) fun _ _ _ _ _ _ us hl => match us, hl with | [_, _, _], _ => rfl
  have gOf' := PySem.W.mg_of X G aOf
  have FTg := fun_mk (st := sOriginInGroup) lTg c_Tg k_Tg
  have bTg := FTg.binds (ps := ["j", "wanted", "unit"]) fun _ _ _ _ _ _ us hl => match us, hl with | [_, _, _], _ => rfl
  have gTg' := PySem.W.mg_of X G aTg
  have FTt := fun_mk (st := sTrace) lTt c_Tt k_Tt
  have bTt := FTt.binds (ps := ["run", "wanted", "place"]) fun _ _ _ _ _ _ us hl => match us, hl with | [_, _, _], _ => rfl
  have gTt' := PySem.W.mg_of X G aTt
  have FLb := fun_mk (st := sLBag) lLb c_Lb k_Lb
  have bLb := FLb.binds (ps := ["script"]) fun _ _ _ _ _ _ us hl => match us, hl with | [_], _ => rfl
  have gLb' := PySem.W.mg_of X G aLb
  have FLd := fun_mk (st := sLDraw) lLd c_Ld k_Ld
  have bLd := FLd.binds (ps := ["bag", "many"]) fun _ _ _ _ _ _ us hl => match us, hl with | [_, _], _ => rfl
  have gLd' := PySem.W.mg_of X G aLd
  have FLr := fun_mk (st := sLReduced) lLr c_Lr k_Lr
  have bLr := FLr.binds (ps := ["row"]) fun _ _ _ _ _ _ us hl => match us, hl with | [_], _ => rfl
  have gLr' := PySem.W.mg_of X G aLr
  have FLu := fun_mk (st := sLRun) lLu c_Lu k_Lu
  have bLu := FLu.binds (ps := ["bag", "tuples", "most", "wide"]) fun _ _ _ _ _ _ us hl => match us, hl with | [_, _, _, _], _ => rfl
  have gLu' := PySem.W.mg_of X G aLu
  have FLw := fun_mk (st := sLAnyWanted) lLw c_Lw k_Lw
  have bLw := FLw.binds (ps := ["bag", "far"]) fun _ _ _ _ _ _ us hl => match us, hl with | [_, _], _ => rfl
  have gLw' := PySem.W.mg_of X G aLw
  have FLn := fun_mk (st := sLUnits) lLn c_Ln k_Ln
  have bLn := FLn.binds (ps := ["run_now", "b", "a"]) fun _ _ _ _ _ _ us hl => match us, hl with | [_, _, _], _ => rfl
  have gLn' := PySem.W.mg_of X G aLn
  have FLa := fun_mk (st := sLAfter) lLa c_La k_La
  have bLa := FLa.binds (ps := ["run_now", "shape"]) fun _ _ _ _ _ _ us hl => match us, hl with | [_, _], _ => rfl
  have gLa' := PySem.W.mg_of X G aLa
  have FSt := fun_mk (st := sStays) lSt c_St k_St
  have bSt := FSt.binds (ps := ["run", "wanted"]) fun _ _ _ _ _ _ us hl => match us, hl with | [_, _], _ => rfl
  have gSt' := PySem.W.mg_of X G aSt
  have FId := fun_mk (st := sIdem) lId c_Id k_Id
  have bId := FId.binds (ps := ["wanted"]) fun _ _ _ _ _ _ us hl => match us, hl with | [_], _ => rfl
  have gId' := PySem.W.mg_of X G aId
  have FUd := fun_mk (st := sUndoing) lUd c_Ud k_Ud
  have bUd := FUd.binds (ps := ["wanted"]) fun _ _ _ _ _ _ us hl => match us, hl with | [_], _ => rfl
  have gUd' := PySem.W.mg_of X G aUd
  have FSr := fun_mk (st := sLSpoiltRun) lSr c_Sr k_Sr
  have bSr := FSr.binds (ps := ["bag", "run_now"]) fun _ _ _ _ _ _ us hl => match us, hl with | [_, _], _ => rfl
  have gSr' := PySem.W.mg_of X G aSr
  have FLf := fun_mk (st := sLRunFault) lLf c_Lf k_Lf
  have bLf := FLf.binds (ps := ["run_now"]) fun _ _ _ _ _ _ us hl => match us, hl with | [_], _ => rfl
  have gLf' := PySem.W.mg_of X G aLf
  have FSf := fun_mk (st := sLSpoiltForm) lSf c_Sf k_Sf
  have bSf := FSf.binds (ps := ["bag", "shape"]) fun _ _ _ _ _ _ us hl => match us, hl with | [_, _], _ => rfl
  have gSf' := PySem.W.mg_of X G aSf
  have FLi := fun_mk (st := sLIsForm) lLi c_Li k_Li
  have bLi := FLi.binds (ps := ["shape"]) fun _ _ _ _ _ _ us hl => match us, hl with | [_], _ => rfl
  have gLi' := PySem.W.mg_of X G aLi
  have FLk := fun_mk (st := sLKind) lLk c_Lk k_Lk
  have bLk := FLk.binds (ps := ["e"]) fun _ _ _ _ _ _ us hl => match us, hl with | [_], _ => rfl
  have gLk' := PySem.W.mg_of X G aLk
  have FLv := fun_mk (st := sLCaught) lLv c_Lv k_Lv
  have bLv := FLv.binds (ps := ["which", "run_now", "shape", "place"]) fun _ _ _ _ _ _ us hl => match us, hl with | [_, _, _, _], _ => rfl
  have gLv' := PySem.W.mg_of X G aLv
  have FW := fun_mk (st := sLaw) lW c_W k_W
  have gW' := PySem.W.mg_of X G aW
  have m_abs := PySem.W.mg_none_of X G z_abs
  have m_divmod := PySem.W.mg_none_of X G z_divmod
  have m_enumerate := PySem.W.mg_none_of X G z_enumerate
  have m_len := PySem.W.mg_none_of X G z_len
  have m_list := PySem.W.mg_none_of X G z_list
  have m_max := PySem.W.mg_none_of X G z_max
  have m_min := PySem.W.mg_none_of X G z_min
  have m_range := PySem.W.mg_none_of X G z_range
  have m_sum := PySem.W.mg_none_of X G z_sum
  have m_tuple := PySem.W.mg_none_of X G z_tuple
  have m_zip := PySem.W.mg_none_of X G z_zip
  have m_isinstance := PySem.W.mg_none_of X G z_isinstance
  have m_ValueError := PySem.W.mg_none_of X G z_ValueError
  have TLn : LineC K mg eL := { gL := PySem.W.mg_of X G xaL, cls := ⟨_, _, _, _, _, _, _, _, _, _, _, _, _, _, xxL⟩, ini := xiL, ty := xtL, exB := xeL, sup := xsup, opq := xoq, sp := xsp, tk := xtk }
  have m_super := PySem.W.mg_none_of X G xsup
  have TE0 : ErrC K P.main.file mg eL "InvalidChain" "InvalidChain.__init__" (sIni 0) e0 := { gC := PySem.W.mg_of X G xa0, cls := ⟨_, _, _, _, _, _, _, _, _, _, _, _, _, _, xx0⟩, sa := xsa0, ga := xga0, gg := xgg0, ca := xca0, nv := xnv0, ty := xty0, kp := xkp0, init := ⟨_, xi0, xt0, _, _, _, _, _, _, _, _, _, xl0, xcd0, ⟨_, _, _, _, _, xv0, xw0⟩, _, _, _, xce_0⟩, tA := ⟨_, _, rfl⟩, tB := ⟨_, _, _, _, _, _, _, _, _, _, _, rfl, fun env => ⟨_, rfl⟩⟩, tS := rfl }
  have TE1 : ErrC K P.main.file mg eL "InvalidRun" "InvalidRun.__init__" (sIni 1) e1 := { gC := PySem.W.mg_of X G xa1, cls := ⟨_, _, _, _, _, _, _, _, _, _, _, _, _, _, xx1⟩, sa := xsa1, ga := xga1, gg := xgg1, ca := xca1, nv := xnv1, ty := xty1, kp := xkp1, init := ⟨_, xi1, xt1, _, _, _, _, _, _, _, _, _, xl1, xcd1, ⟨_, _, _, _, _, xv1, xw1⟩, _, _, _, xce_1⟩, tA := ⟨_, _, rfl⟩, tB := ⟨_, _, _, _, _, _, _, _, _, _, _, rfl, fun env => ⟨_, rfl⟩⟩, tS := rfl }
  have TE2 : ErrC K P.main.file mg eL "InvalidForm" "InvalidForm.__init__" (sIni 2) e2 := { gC := PySem.W.mg_of X G xa2, cls := ⟨_, _, _, _, _, _, _, _, _, _, _, _, _, _, xx2⟩, sa := xsa2, ga := xga2, gg := xgg2, ca := xca2, nv := xnv2, ty := xty2, kp := xkp2, init := ⟨_, xi2, xt2, _, _, _, _, _, _, _, _, _, xl2, xcd2, ⟨_, _, _, _, _, xv2, xw2⟩, _, _, _, xce_2⟩, tA := ⟨_, _, rfl⟩, tB := ⟨_, _, _, _, _, _, _, _, _, _, _, rfl, fun env => ⟨_, rfl⟩⟩, tS := rfl }
  have TE3 : ErrC K P.main.file mg eL "InvalidNumber" "InvalidNumber.__init__" (sIni 3) e3 := { gC := PySem.W.mg_of X G xa3, cls := ⟨_, _, _, _, _, _, _, _, _, _, _, _, _, _, xx3⟩, sa := xsa3, ga := xga3, gg := xgg3, ca := xca3, nv := xnv3, ty := xty3, kp := xkp3, init := ⟨_, xi3, xt3, _, _, _, _, _, _, _, _, _, xl3, xcd3, ⟨_, _, _, _, _, xv3, xw3⟩, _, _, _, xce_3⟩, tA := ⟨_, _, rfl⟩, tB := ⟨_, _, _, _, _, _, _, _, _, _, _, rfl, fun env => ⟨_, rfl⟩⟩, tS := rfl }
  have TE4 : ErrC K P.main.file mg eL "InvalidPlace" "InvalidPlace.__init__" (sIni 4) e4 := { gC := PySem.W.mg_of X G xa4, cls := ⟨_, _, _, _, _, _, _, _, _, _, _, _, _, _, xx4⟩, sa := xsa4, ga := xga4, gg := xgg4, ca := xca4, nv := xnv4, ty := xty4, kp := xkp4, init := ⟨_, xi4, xt4, _, _, _, _, _, _, _, _, _, xl4, xcd4, ⟨_, _, _, _, _, xv4, xw4⟩, _, _, _, xce_4⟩, tA := ⟨_, _, rfl⟩, tB := ⟨_, _, _, _, _, _, _, _, _, _, _, rfl, fun env => ⟨_, rfl⟩⟩, tS := rfl }
  have TE5 : ErrC K P.main.file mg eL "UnknownName" "UnknownName.__init__" (sIni 5) e5 := { gC := PySem.W.mg_of X G xa5, cls := ⟨_, _, _, _, _, _, _, _, _, _, _, _, _, _, xx5⟩, sa := xsa5, ga := xga5, gg := xgg5, ca := xca5, nv := xnv5, ty := xty5, kp := xkp5, init := ⟨_, xi5, xt5, _, _, _, _, _, _, _, _, _, xl5, xcd5, ⟨_, _, _, _, _, xv5, xw5⟩, _, _, _, xce_5⟩, tA := ⟨_, _, rfl⟩, tB := ⟨_, _, _, _, _, _, _, _, _, _, _, rfl, fun env => ⟨_, rfl⟩⟩, tS := rfl }
  have TE6 : ErrC K P.main.file mg eL "NothingToUndo" "NothingToUndo.__init__" (sIni 6) e6 := { gC := PySem.W.mg_of X G xa6, cls := ⟨_, _, _, _, _, _, _, _, _, _, _, _, _, _, xx6⟩, sa := xsa6, ga := xga6, gg := xgg6, ca := xca6, nv := xnv6, ty := xty6, kp := xkp6, init := ⟨_, xi6, xt6, _, _, _, _, _, _, _, _, _, xl6, xcd6, ⟨_, _, _, _, _, xv6, xw6⟩, _, _, _, xce_6⟩, tA := ⟨_, _, rfl⟩, tB := ⟨_, _, _, _, _, _, _, _, _, _, _, rfl, fun env => ⟨_, rfl⟩⟩, tS := rfl }
  have TE7 : ErrC K P.main.file mg eL "Unreadable" "Unreadable.__init__" (sIni 7) e7 := { gC := PySem.W.mg_of X G xa7, cls := ⟨_, _, _, _, _, _, _, _, _, _, _, _, _, _, xx7⟩, sa := xsa7, ga := xga7, gg := xgg7, ca := xca7, nv := xnv7, ty := xty7, kp := xkp7, init := ⟨_, xi7, xt7, _, _, _, _, _, _, _, _, _, xl7, xcd7, ⟨_, _, _, _, _, xv7, xw7⟩, _, _, _, xce_7⟩, tA := ⟨_, _, rfl⟩, tB := ⟨_, _, _, _, _, _, _, _, _, _, _, rfl, fun env => ⟨_, rfl⟩⟩, tS := rfl }
  have TErr : ErrT K P.main.file mg eL (fun i => ([e0, e1, e2, e3, e4, e5, e6, e7] : List Addr).getD i 0) sIni := by
    refine ⟨TLn, TE0, TE1, TE2, TE3, TE4, TE5, TE6, TE7, fun i j hi hj e => ?_, fun i hi => ?_⟩
    · have hi' : i < ([e0, e1, e2, e3, e4, e5, e6, e7] : List Addr).length := hi
      have hj' : j < ([e0, e1, e2, e3, e4, e5, e6, e7] : List Addr).length := hj
      have e' : ([e0, e1, e2, e3, e4, e5, e6, e7] : List Addr)[i] = ([e0, e1, e2, e3, e4, e5, e6, e7] : List Addr)[j] := by
        have e1 : ([e0, e1, e2, e3, e4, e5, e6, e7] : List Addr).getD i 0 = ([e0, e1, e2, e3, e4, e5, e6, e7] : List Addr).getD j 0 := e
        rw [getD_at hi', getD_at hj'] at e1
        exact e1
      exact (List.getElem_inj xnd).mp e'
    · have hi' : i < ([e0, e1, e2, e3, e4, e5, e6, e7] : List Addr).length := hi
      show ([e0, e1, e2, e3, e4, e5, e6, e7] : List Addr).getD i 0 ≠ eL
      rw [getD_at hi']
      exact xnl _ (List.getElem_mem hi')
  have TL : LenT K w mg aL := ⟨PySem.W.mg_of X G gL, ⟨_, _, hL, kL, mL⟩, ⟨_, vL3⟩, ⟨_, vL5⟩, ⟨_, vL4⟩⟩
  have tN : ∀ H : Hp, FmAt K H (.ref aN) nothing := fun H => ⟨aN, rfl, .inr ⟨_, _, _, hN, rfl, rfl, sz5 (by simp), .cons ⟨_, rfl⟩ (.cons ⟨_, rfl⟩ (.cons ⟨_, rfl⟩ .nil))⟩⟩
  refine ⟨PySem.W.fnOf "law" "law" (defArgs sLaw) (defBody sLaw) (defScope sLaw) .none kVW docW pmW anW cdW ctW, fun s v => .of_eq rfl, fun base _ _ => ?_⟩
  generalize hCC : (fun i : Nat => ([e0, e1, e2, e3, e4, e5, e6, e7] : List Addr).getD i 0) = CC at TErr
  have GCr : FnOk P w K mg base CX0 1 fCr _ ["run"] (spChkRun K) := ok_chkRun FCr m_enumerate
  have GIf : FnOk P w K mg base CX0 1 fIf _ ["wanted"] (spIsForm K) := ok_isForm FIf TL m_len m_min
  have GCf : FnOk P w K mg base CX0 2 fCf _ ["wanted"] (spChkForm K) := ok_chkForm FCf GIf k_If bIf gIf'
  have GSa : FnOk P w K mg base CX0 1 fSa _ ["j", "wanted"] (spSigns K) := ok_signs FSa m_max
  have GUg : FnOk P w K mg base CX0 2 fUg _ ["j", "wanted"] (spUog K) := ok_uog FUg GSa k_Sa bSa gSa'
  have GUo : FnOk P w K mg base CX0 3 fUo _ ["first", "second"] (spOne K) := ok_one FUo GUg k_Ug bUg gUg'
  have GAk : FnOk P w K mg base CX0 1 fAk _ ["first", "second"] (spAftKeep K) := ok_aftKeep FAk m_max
  have GBk : FnOk P w K mg base CX0 2 fBk _ ["first", "second"] (spBefKeep K) := ok_befKeep FBk GSa k_Sa bSa gSa'
  have GBo : FnOk P w K mg base CX0 4 fBo _ ["first", "second"] (spBoth K) := ok_both FBo (GAk.mono (by decide)) k_Ak bAk gAk' (GBk.mono (by decide)) k_Bk bBk gBk' GUo k_Uo bUo gUo'
  have GMg : FnOk P w K mg base CX0 1 fMg _ ["groups"] (spMerged K) := ok_merged FMg
  have GRu : FnOk P w K mg base CX0 1 fRu _ ["total", "wanted"] (spRou K) := ok_rou FRu
  have GUn : FnOk P w K mg base CX0 3 fUn _ ["run", "wanted"] (spUnits K) := ok_units FUn GUg k_Ug bUg gUg' m_sum
  have GRa : FnOk P w K mg base CX0 4 fRa _ ["run", "wanted"] (spRunAft K) := ok_runAft FRa (GSa.mono (by decide)) k_Sa bSa gSa' (GMg.mono (by decide)) k_Mg bMg gMg' GUn k_Un bUn gUn' (GRu.mono (by decide)) k_Ru bRu gRu'
  have GTp : FnOk P w K mg base CX0 1 fTp _ ["place", "total"] spChp := ok_chp FTp
  have GTw : FnOk P w K mg base CX0 1 fTw _ ["wanted"] (spWid K) := ok_wid FTw
  have GTl : FnOk P w K mg base CX0 3 fTl _ ["groups", "wanted"] (spLens K) := ok_lens FTl ⟨GUg.mono (by decide), k_Ug, bUg, gUg'⟩
  have GTc : FnOk P w K mg base CX0 1 fTc _ ["groups", "lengths", "place"] (spLoc K) := ok_loc FTc ⟨m_enumerate, m_divmod, m_len⟩
  have GTs : FnOk P w K mg base CX0 1 fTs _ ["groups", "lengths", "at", "number"] (spSta K) := ok_sta FTs ⟨m_zip, m_sum⟩
  have GTr : FnOk P w K mg base CX0 1 fTr _ ["j", "wanted"] (spRet K) := ok_ret FTr ⟨m_max⟩
  have GTu : FnOk P w K mg base CX0 2 fTu _ ["j", "wanted", "place"] (spUig K) := ok_uig FTu ⟨m_min⟩ ⟨GTr.mono (by decide), k_Tr, bTr, gTr'⟩
  have GOf : FnOk P w K mg base CX0 4 fOf _ ["run", "wanted", "place"] (spOff K) := ok_off FOf ⟨m_len⟩ (PySem.W.mg_of X G gN) tN ⟨GCr.mono (by decide), k_Cr, bCr, gCr'⟩ ⟨GCf.mono (by decide), k_Cf, bCf, gCf'⟩ ⟨GTw.mono (by decide), k_Tw, bTw, gTw'⟩ ⟨GTp.mono (by decide), k_Tp, bTp, gTp'⟩ ⟨GUn.mono (by decide), k_Un, bUn, gUn'⟩ ⟨GTc.mono (by decide), k_Tc, bTc, gTc'⟩ ⟨GTl.mono (by decide), k_Tl, bTl, gTl'⟩ ⟨GTs.mono (by decide), k_Ts, bTs, gTs'⟩ ⟨GTu.mono (by decide), k_Tu, bTu, gTu'⟩
  have GTg : FnOk P w K mg base CX0 2 fTg _ ["j", "wanted", "unit"] (spOri K) := ok_ori FTg ⟨GTr.mono (by decide), k_Tr, bTr, gTr'⟩
  have GTt : FnOk P w K mg base CX0 4 fTt _ ["run", "wanted", "place"] (spTra K) := ok_tra FTt ⟨m_len⟩ (PySem.W.mg_of X G gN) tN ⟨GCr.mono (by decide), k_Cr, bCr, gCr'⟩ ⟨GCf.mono (by decide), k_Cf, bCf, gCf'⟩ ⟨GTw.mono (by decide), k_Tw, bTw, gTw'⟩ ⟨GTp.mono (by decide), k_Tp, bTp, gTp'⟩ ⟨GUn.mono (by decide), k_Un, bUn, gUn'⟩ ⟨GTc.mono (by decide), k_Tc, bTc, gTc'⟩ ⟨GTl.mono (by decide), k_Tl, bTl, gTl'⟩ ⟨GTs.mono (by decide), k_Ts, bTs, gTs'⟩ ⟨GTg.mono (by decide), k_Tg, bTg, gTg'⟩
  have GLb : FnOk P w K mg base CX0 1 fLb _ ["script"] (spBag K) := ok_bag FLb ⟨m_abs⟩
  have GLd : FnOk P w K mg base CX0 1 fLd _ ["bag", "many"] spDraw := ok_draw FLd ⟨m_len⟩
  have GLr : FnOk P w K mg base CX0 1 fLr _ ["row"] (spReduced K) := ok_reduced FLr ⟨m_len⟩
  have GLu : FnOk P w K mg base CX0 2 fLu _ ["bag", "tuples", "most", "wide"] (spRun K) := ok_run FLu ⟨m_range⟩ ⟨GLr, k_Lr, bLr, gLr'⟩ ⟨GLd, k_Ld, bLd, gLd'⟩
  have GLw : FnOk P w K mg base CX0 2 fLw _ ["bag", "far"] spAny := ok_any FLw ⟨m_range⟩ ⟨GLd, k_Ld, bLd, gLd'⟩
  have GLn : FnOk P w K mg base CX0 1 fLn _ ["run_now", "b", "a"] (spLUnits K) := ok_lunits FLn ⟨m_sum, m_max⟩
  have GLa : FnOk P w K mg base CX0 2 fLa _ ["run_now", "shape"] (spLAfter K) := ok_lafter FLa ⟨m_max⟩ ⟨GLr, k_Lr, bLr, gLr'⟩ ⟨GLn, k_Ln, bLn, gLn'⟩
  have GCrE : FnOk P w K mg base (L2.CX P w) 4 fCr _ ["run"] (spChkRunE K (CC 1)) := ok_chkRunE (k := 1) TErr FCr m_enumerate ht m_super
  have LW32 : LenW K w mg aL Ws32 := ⟨TL, fun z hz => by cases hz; exact xkept⟩
  have GIfB : FnOk P w K mg base CX0 3 fIf _ ["wanted"] (spIsFB K Ws32) := ok_isFB (k := 2) FIf LW32 m_len m_min
  have GCfE : FnOk P w K mg base (L2.CX P w) 4 fCf _ ["wanted"] (spCfE K Ws32 (CC 2)) := ok_cfE (k := 1) TErr FCf GIfB k_If bIf gIf' ht m_super
  have GTpE : FnOk P w K mg base (L2.CX P w) 3 fTp _ ["place", "total"] (spChpE (CC 4)) := ok_chpE (k := 0) TErr.line TErr.e4 FTp ht m_super
  have GTtE : FnOk P w K mg base (L2.CX P w) 5 fTt _ ["run", "wanted", "place"] (spTraE K (CC 4)) := ok_traE (k := 4) FTt ⟨GCr.mono (by decide), k_Cr, bCr, gCr'⟩ ⟨GCf.mono (by decide), k_Cf, bCf, gCf'⟩ ⟨GTw.mono (by decide), k_Tw, bTw, gTw'⟩ (GTpE.mono (by decide)) bTp gTp' k_Tp ⟨GUn.mono (by decide), k_Un, bUn, gUn'⟩
  have GOfE : FnOk P w K mg base (L2.CX P w) 5 fOf _ ["run", "wanted", "place"] (spOffE K (CC 4)) := ok_offE (k := 4) FOf (PySem.W.mg_of X G gN) tN ⟨GCr.mono (by decide), k_Cr, bCr, gCr'⟩ ⟨GCf.mono (by decide), k_Cf, bCf, gCf'⟩ (GTpE.mono (by decide)) bTp gTp' k_Tp ⟨GUn.mono (by decide), k_Un, bUn, gUn'⟩
  have GTtF : FnOk P w K mg base (L2.CX P w) 5 fTt _ ["run", "wanted", "place"] (spTrF K (CC 1) (CC 2)) := ok_trF (k := 4) FTt (GCrE.mono (by decide)) bCr gCr' k_Cr (GCfE.mono (by decide)) bCf gCf' k_Cf
  have GOfF : FnOk P w K mg base (L2.CX P w) 5 fOf _ ["run", "wanted", "place"] (spTrF K (CC 1) (CC 2)) := ok_ofF (k := 4) FOf (GCrE.mono (by decide)) bCr gCr' k_Cr (GCfE.mono (by decide)) bCf gCf' k_Cf
  have GStE : FnOk P w K mg base (L2.CX P w) 5 fSt _ ["run", "wanted"] (spStaE K (CC 1) (CC 2)) := ok_staE (k := 4) FSt (GCrE.mono (by decide)) bCr gCr' k_Cr (GCfE.mono (by decide)) bCf gCf' k_Cf
  have GIdE : FnOk P w K mg base (L2.CX P w) 5 fId _ ["wanted"] (spIdE K (CC 2)) := ok_idE (k := 4) FId (GCfE.mono (by decide)) bCf gCf' k_Cf
  have GUdE : FnOk P w K mg base (L2.CX P w) 5 fUd _ ["wanted"] (spIdE K (CC 2)) := ok_unE (k := 4) FUd (GCfE.mono (by decide)) bCf gCf' k_Cf
  have GSt : FnOk P w K mg base CX0 5 fSt _ ["run", "wanted"] (spStays K) := ok_stays (k := 4) FSt ⟨GCr.mono (by decide), k_Cr, bCr, gCr'⟩ ⟨GCf.mono (by decide), k_Cf, bCf, gCf'⟩ ⟨GRa.mono (by decide), k_Ra, bRa, gRa'⟩
  have GId : FnOk P w K mg base CX0 5 fId _ ["wanted"] (spIdem K) := ok_idem (k := 4) FId ⟨GCf.mono (by decide), k_Cf, bCf, gCf'⟩ ⟨GBo.mono (by decide), k_Bo, bBo, gBo'⟩
  have GUd : FnOk P w K mg base CX0 5 fUd _ ["wanted"] (spUnd K) := ok_und (k := 4) FUd ⟨GCf.mono (by decide), k_Cf, bCf, gCf'⟩
  have GLk : FnA P w K mg base 5 fLk _ ["e"] (spKind CC) := ok_kind (k := 4) TErr FLk ⟨m_isinstance, m_ValueError⟩
  have GLv : FnOk P w K mg base CX0 6 fLv _ ["which", "run_now", "shape", "place"] (spCa K) := ok_ca (k := 5) TErr FLv GLk bLk gLk' k_Lk (FnOk.or GSt GStE) bSt gSt' k_St (FnOk.or (GTt.mono (by decide)) (FnOk.or2 GTtE GTtF)) bTt gTt' k_Tt (FnOk.or (GOf.mono (by decide)) (FnOk.or2 GOfE GOfF)) bOf gOf' k_Of (FnOk.or GId GIdE) bId gId' k_Id (FnOk.or GUd GUdE) bUd gUd' k_Ud
  have GSr : FnOk P w K mg base CX0 2 fSr _ ["bag", "run_now"] (spSpr K) := ok_spr FSr ⟨m_range, m_len, m_list, m_min⟩ ⟨GLd.mono (by decide), k_Ld, bLd, gLd'⟩
  have GLf : FnOk P w K mg base CX0 1 fLf _ ["run_now"] (spFau K) := ok_fau FLf ⟨m_range, m_len, m_list, m_min⟩
  have GSf : FnOk P w K mg base CX0 2 fSf _ ["bag", "shape"] spSpf := ok_spf FSf ⟨m_range, m_len, m_list, m_min⟩ ⟨GLd.mono (by decide), k_Ld, bLd, gLd'⟩
  have GLi : FnOk P w K mg base CX0 1 fLi _ ["shape"] spLif := ok_lif FLi ⟨m_range, m_len, m_list, m_min⟩
  have GW := ok_law FW ⟨m_range, m_min, m_len⟩ (k := 6) ⟨GLb.mono (by decide), k_Lb, bLb, gLb'⟩ ⟨GLd.mono (by decide), k_Ld, bLd, gLd'⟩ ⟨GLu.mono (by decide), k_Lu, bLu, gLu'⟩ ⟨GLw.mono (by decide), k_Lw, bLw, gLw'⟩ ⟨GLa.mono (by decide), k_La, bLa, gLa'⟩ ⟨GLn.mono (by decide), k_Ln, bLn, gLn'⟩ ⟨GSr.mono (by decide), k_Sr, bSr, gSr'⟩ ⟨GSf.mono (by decide), k_Sf, bSf, gSf'⟩ ⟨GLi.mono (by decide), k_Li, bLi, gLi'⟩ ⟨GLf.mono (by decide), k_Lf, bLf, gLf'⟩ ⟨GLv.mono (by decide), k_Lv, bLv, gLv'⟩
  exact FnG.of GW
end Lw
open PySem PySem.W PyProof.Rows
set_option maxRecDepth 100000 in
set_option maxHeartbeats 0 in
theorem PySem.Challenge.cw_lineends_k32_staying_and_tracing_errors_holds : PySem.Challenge.rw_lineends_k32_staying_and_tracing_errors.Holds := by
  w_on; o_law; k_head; (case hw => w_witness2)
  k_fill
  refine Lx.endG (l := PySem.Challenge.rw_lineends_k32_staying_and_tracing_errors) (n := 63) (k := 7) (x := "script") (CX := fun _ => L2.CX0) (sp := fun w => Lw.spLaw _) rfl (by decide) rfl ⟨rfl, by decide, by decide⟩ (fun w h Y => PySem.W.kIn_of Y) ?F (fun _ _ a ns hl hS => ⟨a, ns, rfl, hS, hl, fun _ => rfl⟩) (fun _ _ _ _ _ h => h)
  case F =>
    intro w mg fa h KX G hmg
    refine' Lw.all_mk KX G hmg (by decide +kernel) ?xaL ?xxL ?xiL ?xtL ?xeL ?xoq ?xsp ?xtk ?xsup ?xa0 ?xx0 ?xsa0 ?xga0 ?xgg0 ?xca0 ?xnv0 ?xty0 ?xkp0 ?xi0 ?xt0 ?xl0 ?xcd0 ?xv0 ?xw0 ?xce_0 ?xa1 ?xx1 ?xsa1 ?xga1 ?xgg1 ?xca1 ?xnv1 ?xty1 ?xkp1 ?xi1 ?xt1 ?xl1 ?xcd1 ?xv1 ?xw1 ?xce_1 ?xa2 ?xx2 ?xsa2 ?xga2 ?xgg2 ?xca2 ?xnv2 ?xty2 ?xkp2 ?xi2 ?xt2 ?xl2 ?xcd2 ?xv2 ?xw2 ?xce_2 ?xa3 ?xx3 ?xsa3 ?xga3 ?xgg3 ?xca3 ?xnv3 ?xty3 ?xkp3 ?xi3 ?xt3 ?xl3 ?xcd3 ?xv3 ?xw3 ?xce_3 ?xa4 ?xx4 ?xsa4 ?xga4 ?xgg4 ?xca4 ?xnv4 ?xty4 ?xkp4 ?xi4 ?xt4 ?xl4 ?xcd4 ?xv4 ?xw4 ?xce_4 ?xa5 ?xx5 ?xsa5 ?xga5 ?xgg5 ?xca5 ?xnv5 ?xty5 ?xkp5 ?xi5 ?xt5 ?xl5 ?xcd5 ?xv5 ?xw5 ?xce_5 ?xa6 ?xx6 ?xsa6 ?xga6 ?xgg6 ?xca6 ?xnv6 ?xty6 ?xkp6 ?xi6 ?xt6 ?xl6 ?xcd6 ?xv6 ?xw6 ?xce_6 ?xa7 ?xx7 ?xsa7 ?xga7 ?xgg7 ?xca7 ?xnv7 ?xty7 ?xkp7 ?xi7 ?xt7 ?xl7 ?xcd7 ?xv7 ?xw7 ?xce_7 ?xnd ?xnl ?aCr ?lCr ?c_Cr ?k_Cr ?aCf ?lCf ?c_Cf ?k_Cf ?aIf ?lIf ?c_If ?k_If ?aBo ?lBo ?c_Bo ?k_Bo ?aAk ?lAk ?c_Ak ?k_Ak ?aBk ?lBk ?c_Bk ?k_Bk ?aUo ?lUo ?c_Uo ?k_Uo ?aSa ?lSa ?c_Sa ?k_Sa ?aRa ?lRa ?c_Ra ?k_Ra ?aRu ?lRu ?c_Ru ?k_Ru ?aUn ?lUn ?c_Un ?k_Un ?aUg ?lUg ?c_Ug ?k_Ug ?aMg ?lMg ?c_Mg ?k_Mg ?aTp ?lTp ?c_Tp ?k_Tp ?aTw ?lTw ?c_Tw ?k_Tw ?aTl ?lTl ?c_Tl ?k_Tl ?aTc ?lTc ?c_Tc ?k_Tc ?aTs ?lTs ?c_Ts ?k_Ts ?aTr ?lTr ?c_Tr ?k_Tr ?aTu ?lTu ?c_Tu ?k_Tu ?aOf ?lOf ?c_Of ?k_Of ?aTg ?lTg ?c_Tg ?k_Tg ?aTt ?lTt ?c_Tt ?k_Tt ?aLb ?lLb ?c_Lb ?k_Lb ?aLd ?lLd ?c_Ld ?k_Ld ?aLr ?lLr ?c_Lr ?k_Lr ?aLu ?lLu ?c_Lu ?k_Lu ?aLw ?lLw ?c_Lw ?k_Lw ?aLn ?lLn ?c_Ln ?k_Ln ?aLa ?lLa ?c_La ?k_La ?aSt ?lSt ?c_St ?k_St ?aId ?lId ?c_Id ?k_Id ?aUd ?lUd ?c_Ud ?k_Ud ?aSr ?lSr ?c_Sr ?k_Sr ?aLf ?lLf ?c_Lf ?k_Lf ?aSf ?lSf ?c_Sf ?k_Sf ?aLi ?lLi ?c_Li ?k_Li ?aLk ?lLk ?c_Lk ?k_Lk ?aLv ?lLv ?c_Lv ?k_Lv ?aW ?lW ?c_W ?k_W ?z_abs ?z_divmod ?z_enumerate ?z_len ?z_list ?z_max ?z_min ?z_range ?z_sum ?z_tuple ?z_zip ?z_isinstance ?z_ValueError ?gL ?hL ?kL ?mL ?vL3 ?vL5 ?vL4 ?gN ?hN ?xkept
    (case xaL => k_is)
    (case xxL => k_is)
    (case xiL => k_is)
    (case xtL => k_is)
    (case xeL => k_is)
    (case xoq => k_is)
    (case xsp => k_is)
    (case xtk => k_is)
    (case xsup => k_is)
    (case xa0 => k_is)
    (case xx0 => k_is)
    (case xsa0 => k_is)
    (case xga0 => k_is)
    (case xgg0 => k_is)
    (case xca0 => k_is)
    (case xnv0 => k_is)
    (case xty0 => k_is)
    (case xkp0 => k_is)
    (case xi0 => k_is)
    (case xt0 => k_is)
    (case xl0 => k_is)
    (case xcd0 => k_is)
    (case xv0 => k_is)
    (case xw0 => rfl)
    (case xce_0 => k_is)
    (case xa1 => k_is)
    (case xx1 => k_is)
    (case xsa1 => k_is)
    (case xga1 => k_is)
    (case xgg1 => k_is)
    (case xca1 => k_is)
    (case xnv1 => k_is)
    (case xty1 => k_is)
    (case xkp1 => k_is)
    (case xi1 => k_is)
    (case xt1 => k_is)
    (case xl1 => k_is)
    (case xcd1 => k_is)
    (case xv1 => k_is)
    (case xw1 => rfl)
    (case xce_1 => k_is)
    (case xa2 => k_is)
    (case xx2 => k_is)
    (case xsa2 => k_is)
    (case xga2 => k_is)
    (case xgg2 => k_is)
    (case xca2 => k_is)
    (case xnv2 => k_is)
    (case xty2 => k_is)
    (case xkp2 => k_is)
    (case xi2 => k_is)
    (case xt2 => k_is)
    (case xl2 => k_is)
    (case xcd2 => k_is)
    (case xv2 => k_is)
    (case xw2 => rfl)
    (case xce_2 => k_is)
    (case xa3 => k_is)
    (case xx3 => k_is)
    (case xsa3 => k_is)
    (case xga3 => k_is)
    (case xgg3 => k_is)
    (case xca3 => k_is)
    (case xnv3 => k_is)
    (case xty3 => k_is)
    (case xkp3 => k_is)
    (case xi3 => k_is)
    (case xt3 => k_is)
    (case xl3 => k_is)
    (case xcd3 => k_is)
    (case xv3 => k_is)
    (case xw3 => rfl)
    (case xce_3 => k_is)
    (case xa4 => k_is)
    (case xx4 => k_is)
    (case xsa4 => k_is)
    (case xga4 => k_is)
    (case xgg4 => k_is)
    (case xca4 => k_is)
    (case xnv4 => k_is)
    (case xty4 => k_is)
    (case xkp4 => k_is)
    (case xi4 => k_is)
    (case xt4 => k_is)
    (case xl4 => k_is)
    (case xcd4 => k_is)
    (case xv4 => k_is)
    (case xw4 => rfl)
    (case xce_4 => k_is)
    (case xa5 => k_is)
    (case xx5 => k_is)
    (case xsa5 => k_is)
    (case xga5 => k_is)
    (case xgg5 => k_is)
    (case xca5 => k_is)
    (case xnv5 => k_is)
    (case xty5 => k_is)
    (case xkp5 => k_is)
    (case xi5 => k_is)
    (case xt5 => k_is)
    (case xl5 => k_is)
    (case xcd5 => k_is)
    (case xv5 => k_is)
    (case xw5 => rfl)
    (case xce_5 => k_is)
    (case xa6 => k_is)
    (case xx6 => k_is)
    (case xsa6 => k_is)
    (case xga6 => k_is)
    (case xgg6 => k_is)
    (case xca6 => k_is)
    (case xnv6 => k_is)
    (case xty6 => k_is)
    (case xkp6 => k_is)
    (case xi6 => k_is)
    (case xt6 => k_is)
    (case xl6 => k_is)
    (case xcd6 => k_is)
    (case xv6 => k_is)
    (case xw6 => rfl)
    (case xce_6 => k_is)
    (case xa7 => k_is)
    (case xx7 => k_is)
    (case xsa7 => k_is)
    (case xga7 => k_is)
    (case xgg7 => k_is)
    (case xca7 => k_is)
    (case xnv7 => k_is)
    (case xty7 => k_is)
    (case xkp7 => k_is)
    (case xi7 => k_is)
    (case xt7 => k_is)
    (case xl7 => k_is)
    (case xcd7 => k_is)
    (case xv7 => k_is)
    (case xw7 => rfl)
    (case xce_7 => k_is)
    (case xnd => decide)
    (case xnl => decide)
    (case aCr => k_is)
    (case lCr => k_is)
    (case c_Cr => k_is)
    (case k_Cr => k_is)
    (case aCf => k_is)
    (case lCf => k_is)
    (case c_Cf => k_is)
    (case k_Cf => k_is)
    (case aIf => k_is)
    (case lIf => k_is)
    (case c_If => k_is)
    (case k_If => k_is)
    (case aBo => k_is)
    (case lBo => k_is)
    (case c_Bo => k_is)
    (case k_Bo => k_is)
    (case aAk => k_is)
    (case lAk => k_is)
    (case c_Ak => k_is)
    (case k_Ak => k_is)
    (case aBk => k_is)
    (case lBk => k_is)
    (case c_Bk => k_is)
    (case k_Bk => k_is)
    (case aUo => k_is)
    (case lUo => k_is)
    (case c_Uo => k_is)
    (case k_Uo => k_is)
    (case aSa => k_is)
    (case lSa => k_is)
    (case c_Sa => k_is)
    (case k_Sa => k_is)
    (case aRa => k_is)
    (case lRa => k_is)
    (case c_Ra => k_is)
    (case k_Ra => k_is)
    (case aRu => k_is)
    (case lRu => k_is)
    (case c_Ru => k_is)
    (case k_Ru => k_is)
    (case aUn => k_is)
    (case lUn => k_is)
    (case c_Un => k_is)
    (case k_Un => k_is)
    (case aUg => k_is)
    (case lUg => k_is)
    (case c_Ug => k_is)
    (case k_Ug => k_is)
    (case aMg => k_is)
    (case lMg => k_is)
    (case c_Mg => k_is)
    (case k_Mg => k_is)
    (case aTp => k_is)
    (case lTp => k_is)
    (case c_Tp => k_is)
    (case k_Tp => k_is)
    (case aTw => k_is)
    (case lTw => k_is)
    (case c_Tw => k_is)
    (case k_Tw => k_is)
    (case aTl => k_is)
    (case lTl => k_is)
    (case c_Tl => k_is)
    (case k_Tl => k_is)
    (case aTc => k_is)
    (case lTc => k_is)
    (case c_Tc => k_is)
    (case k_Tc => k_is)
    (case aTs => k_is)
    (case lTs => k_is)
    (case c_Ts => k_is)
    (case k_Ts => k_is)
    (case aTr => k_is)
    (case lTr => k_is)
    (case c_Tr => k_is)
    (case k_Tr => k_is)
    (case aTu => k_is)
    (case lTu => k_is)
    (case c_Tu => k_is)
    (case k_Tu => k_is)
    (case aOf => k_is)
    (case lOf => k_is)
    (case c_Of => k_is)
    (case k_Of => k_is)
    (case aTg => k_is)
    (case lTg => k_is)
    (case c_Tg => k_is)
    (case k_Tg => k_is)
    (case aTt => k_is)
    (case lTt => k_is)
    (case c_Tt => k_is)
    (case k_Tt => k_is)
    (case aLb => k_is)
    (case lLb => k_is)
    (case c_Lb => k_is)
    (case k_Lb => k_is)
    (case aLd => k_is)
    (case lLd => k_is)
    (case c_Ld => k_is)
    (case k_Ld => k_is)
    (case aLr => k_is)
    (case lLr => k_is)
    (case c_Lr => k_is)
    (case k_Lr => k_is)
    (case aLu => k_is)
    (case lLu => k_is)
    (case c_Lu => k_is)
    (case k_Lu => k_is)
    (case aLw => k_is)
    (case lLw => k_is)
    (case c_Lw => k_is)
    (case k_Lw => k_is)
    (case aLn => k_is)
    (case lLn => k_is)
    (case c_Ln => k_is)
    (case k_Ln => k_is)
    (case aLa => k_is)
    (case lLa => k_is)
    (case c_La => k_is)
    (case k_La => k_is)
    (case aSt => k_is)
    (case lSt => k_is)
    (case c_St => k_is)
    (case k_St => k_is)
    (case aId => k_is)
    (case lId => k_is)
    (case c_Id => k_is)
    (case k_Id => k_is)
    (case aUd => k_is)
    (case lUd => k_is)
    (case c_Ud => k_is)
    (case k_Ud => k_is)
    (case aSr => k_is)
    (case lSr => k_is)
    (case c_Sr => k_is)
    (case k_Sr => k_is)
    (case aLf => k_is)
    (case lLf => k_is)
    (case c_Lf => k_is)
    (case k_Lf => k_is)
    (case aSf => k_is)
    (case lSf => k_is)
    (case c_Sf => k_is)
    (case k_Sf => k_is)
    (case aLi => k_is)
    (case lLi => k_is)
    (case c_Li => k_is)
    (case k_Li => k_is)
    (case aLk => k_is)
    (case lLk => k_is)
    (case c_Lk => k_is)
    (case k_Lk => k_is)
    (case aLv => k_is)
    (case lLv => k_is)
    (case c_Lv => k_is)
    (case k_Lv => k_is)
    (case aW => k_is)
    (case lW => k_is)
    (case c_W => k_is)
    (case k_W => k_is)
    (case z_abs => k_is)
    (case z_divmod => k_is)
    (case z_enumerate => k_is)
    (case z_len => k_is)
    (case z_list => k_is)
    (case z_max => k_is)
    (case z_min => k_is)
    (case z_range => k_is)
    (case z_sum => k_is)
    (case z_tuple => k_is)
    (case z_zip => k_is)
    (case z_isinstance => k_is)
    (case z_ValueError => k_is)
    (case gL => k_is)
    (case hL => k_is)
    (case kL => exact ⟨⟨_, _, rfl, rfl⟩, ⟨_, _, rfl, rfl⟩, ⟨_, _, rfl, rfl⟩, trivial⟩)
    (case mL => decide)
    (case vL3 => k_is)
    (case vL5 => k_is)
    (case vL4 => k_is)
    (case gN => k_is)
    (case hN => k_is)
    (case xkept => k_is)
